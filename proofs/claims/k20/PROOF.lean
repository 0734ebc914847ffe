import PyProof.Rows.All
import Wide.All
import OpenK.AllK
import Wide.FinOn
import Lean
import PyProof.EqAt
import PyProof.EqKinds
import PyProof.TupleCall
import PyProof.NeKinds
import KE.KIntText
import PyProof.TupleOfStr
import PyProof.ReprRoads
import KE.KSortTup
import KE.KItemsList
import PySem.Challenge.RW_stairlanes_k20_balls_back
set_option Elab.async false
set_option linter.all false
set_option maxRecDepth 100000
namespace L2
open PySem PySem.Spec PyProof.Rows
abbrev Key := Sum Int Str
def keyIs : Key → Value → Bool
  | .inl k, v => Value.isInt k v
  | .inr x, v => Value.isStrOf x v
def keyH (w : World) : Key → Int
  | .inl k => hashInt k
  | .inr x => hashStr w x
theorem keyIs_shape : ∀ {k : Key} {v : Value}, keyIs k v = true → (∃ i t, k = Sum.inl i ∧ v = Value.int i t) ∨ (∃ x t, k = Sum.inr x ∧ v = Value.str x t)
  | .inl i, v, h => by
    obtain ⟨t, e⟩ := Value.isInt_shape (k := i) (v := v) h
    exact .inl ⟨i, t, rfl, e⟩
  | .inr x, v, h => by
    obtain ⟨t, e⟩ := Value.isStrOf_shape (x := x) (v := v) h
    exact .inr ⟨x, t, rfl, e⟩
theorem key_ll (a b : Int) : decide ((Sum.inl a : Key) = Sum.inl b) = (a == b) := by
  by_cases e : a = b
  · subst e; simp
  · have h : ¬ (Sum.inl a : Key) = Sum.inl b := fun q => e (Sum.inl.inj q)
    rw [decide_eq_false h]
    exact (beq_eq_false_iff_ne.mpr e).symm
theorem key_rr (a b : Str) : decide ((Sum.inr a : Key) = Sum.inr b) = decide (a = b) := by
  by_cases e : a = b
  · subst e; simp
  · have h : ¬ (Sum.inr a : Key) = Sum.inr b := fun q => e (Sum.inr.inj q)
    rw [decide_eq_false h, decide_eq_false e]
theorem key_lr (a : Int) (b : Str) : decide ((Sum.inl a : Key) = Sum.inr b) = false := decide_eq_false (fun q => nomatch q)
theorem key_rl (a : Str) (b : Int) : decide ((Sum.inr a : Key) = Sum.inl b) = false := decide_eq_false (fun q => nomatch q)

def mixKind (prog : Program) (w : World) : PySem.KeyKind prog w Key where
  is := keyIs
  hash := keyH w
  inj := fun v a b ha hb => by
    rcases keyIs_shape ha with ⟨i, t, rfl, rfl⟩ | ⟨x, t, rfl, rfl⟩
    · rcases keyIs_shape hb with ⟨j, u, rfl, e⟩ | ⟨y, u, rfl, e⟩
      · injection e with e1 _; rw [e1]
      · exact nomatch e
    · rcases keyIs_shape hb with ⟨j, u, rfl, e⟩ | ⟨y, u, rfl, e⟩
      · exact nomatch e
      · injection e with e1 _; rw [e1]
  byValue := fun k v h => by
    rcases keyIs_shape h with ⟨i, t, rfl, rfl⟩ | ⟨x, t, rfl, rfl⟩ <;> rfl
  pyHash := fun hv h => by
    rcases keyIs_shape hv with ⟨i, t, rfl, rfl⟩ | ⟨x, t, rfl, rfl⟩
    · exact wpAny_pyHash_int h
    · exact wpAny_pyHash_str h
  eqBool := fun hu hv h => by
    rcases keyIs_shape hu with ⟨i, t, rfl, rfl⟩ | ⟨x, t, rfl, rfl⟩
    · rcases keyIs_shape hv with ⟨j, u, rfl, rfl⟩ | ⟨y, u, rfl, rfl⟩
      · rw [key_ll] at h; exact wpAny_eqBool_int h
      · rw [key_lr] at h; exact SeqAt.EqAt.int_str i t y u _ _ _ _ h
    · rcases keyIs_shape hv with ⟨j, u, rfl, rfl⟩ | ⟨y, u, rfl, rfl⟩
      · rw [key_rl] at h; exact SeqAt.EqAt.str_int x t j u _ _ _ _ h
      · rw [key_rr] at h; exact wpAny_eqBool_str h
  «strs» := fun k x t v h => by
    rcases keyIs_shape h with ⟨i, u, rfl, e⟩ | ⟨y, u, rfl, e⟩
    · exact nomatch e
    · injection e with e1 _
      subst e1
      cases v <;> rfl

end L2

namespace L2
open PySem PySem.Spec PyProof.Rows
inductive V where
  | non | bl (b : Bool) | int (i : Int) | str (x : Str) | byt (b : Array UInt8) | flt (b : UInt64) | ref (a : Addr) | ty (n : String)
  deriving DecidableEq

def RelV : V → Value → Prop
  | .non, u => u = Value.none
  | .bl b, u => u = Value.bool b
  | .int i, u => ∃ t, u = Value.int i t
  | .str x, u => ∃ t, u = Value.str x t
  | .byt b, u => ∃ t, u = Value.bytes b t
  | .flt b, u => ∃ t, u = Value.float b t
  | .ref a, u => u = Value.ref a
  | .ty n, u => u = Value.type n

abbrev Vals : List V → List Value → Prop := Paired RelV
theorem Vals.length {xs : List V} {us : List Value} (r : Vals xs us) : xs.length = us.length := Paired.length r
theorem Vals.get : ∀ {xs : List V} {us : List Value} {i : Nat} {x : V}, Vals xs us → xs[i]? = some x → ∃ u, us[i]? = some u ∧ RelV x u
  | _, _, _, _, .nil, e => by simp at e
  | _, _, 0, _, .cons r _, e => by simp at e; subst e; exact ⟨_, rfl, r⟩
  | _, _, i + 1, x, .cons _ t, e => by
    obtain ⟨u, h1, h2⟩ := Vals.get (i := i) (x := x) t (by simpa using e)
    exact ⟨u, by simpa using h1, h2⟩
theorem Vals.set {x : V} {u : Value} (r : RelV x u) : ∀ {xs : List V} {us : List Value} (i : Nat), Vals xs us → Vals (xs.set i x) (us.set i u)
  | _, _, _, .nil => .nil
  | _, _, 0, .cons _ t => .cons r t
  | _, _, i + 1, .cons q t => .cons q (Vals.set r i t)
theorem Vals.append : ∀ {xs ys : List V} {us ws : List Value}, Vals xs us → Vals ys ws → Vals (xs ++ ys) (us ++ ws)
  | _, _, _, _, .nil, s => s
  | _, _, _, _, .cons r t, s => .cons r (Vals.append t s)
theorem Vals.take : ∀ {xs : List V} {us : List Value} (n : Nat), Vals xs us → Vals (xs.take n) (us.take n)
  | _, _, 0, _ => .nil
  | _, _, _ + 1, .nil => .nil
  | _, _, n + 1, .cons r t => .cons r (Vals.take n t)
theorem Vals.drop : ∀ {xs : List V} {us : List Value} (n : Nat), Vals xs us → Vals (xs.drop n) (us.drop n)
  | _, _, 0, r => r
  | _, _, _ + 1, .nil => .nil
  | _, _, n + 1, .cons _ t => Vals.drop n t
def RelO : Option V → Option Value → Prop
  | some v, some u => RelV v u
  | none, none => True
  | _, _ => False
def KV {κ : Type} : List (κ × V) → List (κ × Value) → Prop := Paired fun (p : κ × V) (q : κ × Value) => p.1 = q.1 ∧ RelV p.2 q.2
def kV : Key → V
  | .inl i => .int i
  | .inr x => .str x
inductive HO where
  | lst (xs : List V)
  | tup (xs : List V)
  | dK (kvs : List (Key × V)) | dT (kvs : List (List Key × V))
  | set (S : Int → Bool) (n : Nat)
  | ins (C dx : Addr) (fs : List (Str × V))
  | own (x : Addr)
  | xd (fs : List (Str × V))
  | met (f x : Addr)
  | rng (lo hi : Int)
  | frz (o : Obj) (u : HO)
  | tbl (ps : Array Value)
  | ext (φ : Heap → Prop)

abbrev Hp := Addr → Option HO
def upd (H : Hp) (a : Addr) (o : HO) : Hp := fun b => if b = a then some o else H b
theorem upd_same {H : Hp} {a : Addr} {o : HO} : upd H a o a = some o := by unfold upd; rw [if_pos rfl]
theorem upd_ne {H : Hp} {a b : Addr} {o : HO} (h : b ≠ a) : upd H a o b = H b := by unfold upd; rw [if_neg h]
theorem ne_of_none {H : Hp} {a b : Addr} {o : HO} (h : H a = some o) (h' : H b = none) : a ≠ b := by
  intro e; subst e; rw [h] at h'; cases h'
def TupX (h : Heap) (a : Addr) (items : Array Value) : Prop := ∃ o, h.get? a = some o ∧ o.cls = .type "tuple" ∧ ∃ n, o.data = .seq items n ∧ o.dict = none
theorem TupX.tup {h : Heap} {a : Addr} {items : Array Value} (x : TupX h a items) : IsTup h a items := let ⟨o, e, c, n, d, _⟩ := x; ⟨o, e, c, n, d⟩
theorem TupX.new (h : Heap) (items : Array Value) : TupX (h.push { cls := .type "tuple", data := .seq items }) h.objs.size items := ⟨_, Heap.get?_push_size _ rfl, rfl, 0, rfl, rfl⟩
section
variable (P : Program) (w : World)
def ObjOk (H : Hp) (h : Heap) (a : Addr) : HO → Prop
  | .lst xs => xs.length ≤ sizeLine ∧ ∃ (its : List Value) (n : Nat), Vals xs its ∧ h.get? a = some { cls := .type "list", data := .seq its.toArray n }
  | .tup xs => xs.length ≤ sizeLine ∧ ∃ its : List Value, Vals xs its ∧ TupX h a its.toArray
  | .dK kvs => kvs.length ≤ sizeLine ∧ (a == sysModules) = false ∧ ∃ vs, KV kvs vs ∧ h.DictOf (mixKind P w) a vs
  | .dT kvs => kvs.length ≤ sizeLine ∧ (a == sysModules) = false ∧ ∃ xs : List (List Key × Addr × Value),
      Paired (fun (p : List Key × V) (q : List Key × Addr × Value) => p.1 = q.1 ∧ H q.2.1 = some (.tup (p.1.map kV)) ∧ RelV p.2 q.2.2) kvs xs ∧
      ∃ o es ep, h.get? a = some o ∧ o.ExactDict ∧ o.data = .dict es ep ∧ es.toList = xs.map (entryOfKey (tupleKind (mixKind P w))) ∧ (xs.map (·.1)).Nodup
  | .set S n => h.SetOf (intKind P w) a S n
  | .ins C dx fs => H dx = some (.own a) ∧ fs.length ≤ 1000 ∧ dx ≠ a ∧ h.get? a = some (PySem.W.instObj C dx) ∧
      ∃ mA, h.Ns1 dx mA ∧ (∀ f, RelO (fs.lookup f) (mA f)) ∧ PySem.Within mA (fs.map (·.1))
  | .own _ => ∃ o, h.get? a = some o
  | .xd fs => ∃ mA, h.Ns1 a mA ∧ ∀ f, RelO (fs.lookup f) (mA f)
  | .rng lo hi => ∃ t u v, h.get? a = some { cls := .type "range", data := .fields #[.int lo t, .int hi u, .int 1 v] }
  | .frz o u => h.get? a = some o ∧ ObjOk H h a u
  | .tbl ps => h.get? a = some { cls := .none, data := .fields ps }
  | .met f x => h.get? a = some (PySem.W.methodObj (.ref f) (.ref x))
  | .ext φ => φ h ∧ (∃ o, h.get? a = some o) ∧ ∀ h1 h2 : Heap, φ h1 → (∀ o, h1.get? a = some o → h2.get? a = some o) → φ h2
def HOk (H : Hp) (h : Heap) : Prop := ∀ a o, H a = some o → ObjOk P w H h a o
end

section
variable {P : Program} {w : World} {H H' : Hp} {h h' : Heap} {a : Addr} {o : HO}
theorem ObjOk.lt (x : ObjOk P w H h a o) : a < h.objs.size := by
  cases o with
  | lst xs => obtain ⟨_, _, _, _, e⟩ := x; exact Heap.lt_size e
  | tup xs => obtain ⟨_, _, _, p⟩ := x; exact p.tup.lt
  | dK kvs => obtain ⟨_, _, _, _, o, _, _, e, _⟩ := x; exact Heap.lt_size e
  | dT kvs => obtain ⟨_, _, _, _, o, _, _, e, _⟩ := x; exact Heap.lt_size e
  | set S n => obtain ⟨o, _, _, _, e, _⟩ := x; exact Heap.lt_size e
  | ins C dx fs => obtain ⟨_, _, _, e, _⟩ := x; exact Heap.lt_size e
  | own y => obtain ⟨_, e⟩ := x; exact Heap.lt_size e
  | xd fs => obtain ⟨_, ⟨_, _, _, e, _⟩, _⟩ := x; exact Heap.lt_size e
  | rng lo hi => obtain ⟨_, _, _, e⟩ := x; exact Heap.lt_size e
  | frz ob u => obtain ⟨e, _⟩ := x; exact Heap.lt_size e
  | tbl ps => exact Heap.lt_size (show h.get? a = some _ from x)
  | met f y => exact Heap.lt_size (show h.get? a = some _ from x)
  | ext φ => obtain ⟨_, ⟨_, e⟩, _⟩ := x; exact Heap.lt_size e
theorem Paired.mapP {α β : Type} {F G : α → β → Prop} : ∀ {l₁ : List α} {l₂ : List β}, Paired F l₁ l₂ → (∀ a b, F a b → G a b) → Paired G l₁ l₂
  | _, _, .nil, _ => .nil
  | _, _, .cons r t, f => .cons (f _ _ r) (Paired.mapP t f)
theorem ObjOk.stay (x : ObjOk P w H h a o) (k : ∀ b u, (b = a ∨ H b = some (.own a)) → h.get? b = some u → h'.get? b = some u)
    (ho : ∀ b, H b = some (.own a) → H' b = some (.own a)) (ht : ∀ b xs, H b = some (.tup xs) → H' b = some (.tup xs)) : ObjOk P w H' h' a o := by
  induction o with
  | lst xs => obtain ⟨z, its, n, r, e⟩ := x; exact ⟨z, its, n, r, k _ _ (.inl rfl) e⟩
  | tup xs => obtain ⟨z, its, r, ob, e, c⟩ := x; exact ⟨z, its, r, ob, k _ _ (.inl rfl) e, c⟩
  | dK kvs => obtain ⟨z, y, vs, r, ob, es, ep, e, c⟩ := x; exact ⟨z, y, vs, r, ob, es, ep, k _ _ (.inl rfl) e, c⟩
  | dT kvs =>
    obtain ⟨z, y, xs, r, ob, es, ep, e, c⟩ := x
    exact ⟨z, y, xs, Paired.mapP r fun p q z => ⟨z.1, ht _ _ z.2.1, z.2.2⟩, ob, es, ep, k _ _ (.inl rfl) e, c⟩
  | set S n => obtain ⟨ob, es, ep, t, e, c⟩ := x; exact ⟨ob, es, ep, t, k _ _ (.inl rfl) e, c⟩
  | ins C dx fs =>
    obtain ⟨d, z, ne, e, mA, ⟨od, es, ep, e2, c⟩, r⟩ := x
    exact ⟨ho _ d, z, ne, k _ _ (.inl rfl) e, mA, ⟨od, es, ep, k _ _ (.inr d) e2, c⟩, r⟩
  | own y => obtain ⟨ob, e⟩ := x; exact ⟨ob, k _ _ (.inl rfl) e⟩
  | xd fs => obtain ⟨mA, ⟨od, es, ep, e, c⟩, r⟩ := x; exact ⟨mA, ⟨od, es, ep, k _ _ (.inl rfl) e, c⟩, r⟩
  | rng lo hi => obtain ⟨t, u, v, e⟩ := x; exact ⟨t, u, v, k _ _ (.inl rfl) e⟩
  | frz ob u ih => obtain ⟨e, q⟩ := x; exact ⟨k _ _ (.inl rfl) e, ih q⟩
  | tbl ps =>
    have e : h.get? a = some { cls := .none, data := .fields ps } := x
    show h'.get? a = some { cls := .none, data := .fields ps }
    exact k a _ (.inl rfl) e
  | met f y =>
    have e : h.get? a = some (PySem.W.methodObj (.ref f) (.ref y)) := x
    show h'.get? a = some (PySem.W.methodObj (.ref f) (.ref y))
    exact k a _ (.inl rfl) e
  | ext φ => obtain ⟨p, ⟨o, e⟩, st⟩ := x; exact ⟨st _ _ p fun o q => k _ _ (.inl rfl) q, ⟨o, k _ _ (.inl rfl) e⟩, st⟩
theorem HOk.lt (x : HOk P w H h) (e : H a = some o) : a < h.objs.size := (x a o e).lt
theorem HOk.fresh (x : HOk P w H h) (e : h.objs.size ≤ a) : H a = none := by
  cases q : H a with
  | none => rfl
  | some u => exact absurd (Nat.lt_of_lt_of_le (x.lt q) e) (Nat.lt_irrefl _)
theorem HOk.kept (x : HOk P w H h) (k : ∀ b u, h.get? b = some u → h'.get? b = some u) : HOk P w H h' := fun a o e =>
  (x a o e).stay (fun b u _ q => k b u q) (fun _ q => q) fun _ _ q => q
theorem HOk.laid (x : HOk P w H h) (k : ∀ b u, h.get? b = some u → h'.get? b = some u) (hp : h.objs.size ≤ a) (new : ObjOk P w (upd H a o) h' a o) : HOk P w (upd H a o) h' := fun b u e => by
  have hn := x.fresh hp
  by_cases hb : b = a
  · subst hb; rw [upd_same] at e; cases e; exact new
  · rw [upd_ne hb] at e
    exact (x b u e).stay (fun c v _ q => k c v q) (fun c q => by rw [upd_ne (ne_of_none q hn)]; exact q) fun c xs q => by rw [upd_ne (ne_of_none q hn)]; exact q
end
def Rd (H : Hp) (a : Addr) (u : HO) : Prop := H a = some u ∨ ∃ o, H a = some (.frz o u)
theorem Rd.ok {P : Program} {w : World} {H : Hp} {h : Heap} {a : Addr} {u : HO} (r : Rd H a u) (x : HOk P w H h) : ObjOk P w H h a u := by
  rcases r with r | ⟨o, r⟩
  · exact x a u r
  · obtain ⟨_, q⟩ := x a _ r
    exact q
def Mut : Option HO → Prop
  | some (.lst _) => True
  | some (.dK _) => True
  | some (.dT _) => True
  | some (.set _ _) => True
  | some (.ins _ _ _) => True
  | some (.ext _) => True
  | _ => False
section
variable {P : Program} {w : World} {H : Hp} {h h' : Heap} {x e : Addr} {o' : HO}
theorem HOk.write (ok : HOk P w H h) (mu : Mut (H x)) (he : e = x ∨ H e = some (.own x)) (k : ∀ b u, b ≠ e → h.get? b = some u → h'.get? b = some u) (heo : ∃ u, h'.get? e = some u)
    (new : ObjOk P w (upd H x o') h' x o') : HOk P w (upd H x o') h' := fun b u q => by
  have nown : ∀ c y, H c = some (.own y) → c ≠ x := fun c y r z => by subst z; rw [r] at mu; exact mu
  have ntup : ∀ c xs, H c = some (.tup xs) → c ≠ x := fun c xs r z => by subst z; rw [r] at mu; exact mu
  by_cases hb : b = x
  · subst hb; rw [upd_same] at q; cases q; exact new
  · rw [upd_ne hb] at q
    by_cases hbe : b = e
    · have q' : H b = some (.own x) := by
        rcases he with z | z
        · exact absurd (hbe.trans z) hb
        · rw [hbe]; exact z
      rw [q] at q'; cases q'
      obtain ⟨v, hv⟩ := heo
      exact ⟨v, by rw [hbe]; exact hv⟩
    · refine (ok b u q).stay (fun c v hc r => k c v ?_ r) (fun c r => by rw [upd_ne (nown c b r)]; exact r) fun c xs r => by rw [upd_ne (ntup c xs r)]; exact r
      rcases hc with rfl | hc
      · exact hbe
      · rintro rfl
        rcases he with z | z
        · exact nown c b hc z
        · rw [hc] at z; cases z; exact hb rfl
end
structure Un (fs ex : List Addr) (H H' : Hp) (h h' : Heap) : Prop where
  keep : ∀ b o, h.get? b = some o → H b = none → b ∉ fs → b ∉ ex → h'.get? b = some o
  slot : ∀ b o, h.get? b = some o → H b = none → b ∈ fs → b ∉ ex → ∃ sl, h'.get? b = some { o with slots := sl }
  free : ∀ b o, h.get? b = some o → H b = none → b ∉ ex → H' b = none
  there : ∀ b o, h.get? b = some o → b ∉ ex → ∃ o', h'.get? b = some o'
  tups : ∀ b xs, H b = some (.tup xs) → H' b = some (.tup xs)
  frzs : ∀ b o u, H b = some (.frz o u) → H' b = some (.frz o u)
  tbls : ∀ b ps, H b = some (.tbl ps) → ∃ more, H' b = some (.tbl (ps ++ more))
section
variable {fs fs' ex ex' : List Addr} {H H1 H2 : Hp} {h h1 h2 h' : Heap} {a x e : Addr} {o : HO}
theorem Un.any (u : Un fs ex H H1 h h1) {b : Addr} {ob : Obj} (q : h.get? b = some ob) (n : H b = none) (hx : b ∉ ex) : ∃ sl, h1.get? b = some { ob with slots := sl } := by
  by_cases hb : b ∈ fs
  · exact u.slot b ob q n hb hx
  · exact ⟨ob.slots, u.keep b ob q n hb hx⟩
theorem Un.kept (k : ∀ b u, h.get? b = some u → h'.get? b = some u) : Un fs ex H H h h' :=
  ⟨fun b ob q _ _ _ => k b ob q, fun b ob q _ _ _ => ⟨ob.slots, k b ob q⟩, fun _ _ _ n _ => n, fun b ob q _ => ⟨ob, k b ob q⟩, fun _ _ q => q, fun _ _ _ q => q, fun _ ps q => ⟨#[], by rw [q]; simp⟩⟩
theorem Un.refl : Un fs ex H H h h := Un.kept fun _ _ q => q
theorem Un.laid (k : ∀ b u, h.get? b = some u → h'.get? b = some u) (hp : h.objs.size ≤ a) (hn : H a = none) : Un fs ex H (upd H a o) h h' where
  keep := fun b u q _ _ _ => k b u q
  slot := fun b u q _ _ _ => ⟨u.slots, k b u q⟩
  free := fun b u q n _ => by rw [upd_ne (Nat.ne_of_lt (Nat.lt_of_lt_of_le (Heap.lt_size q) hp))]; exact n
  there := fun b u q _ => ⟨u, k b u q⟩
  tups := fun b xs q => by rw [upd_ne (ne_of_none q hn)]; exact q
  frzs := fun b u xs q => by rw [upd_ne (ne_of_none q hn)]; exact q
  tbls := fun b ps q => ⟨#[], by rw [upd_ne (ne_of_none q hn), q]; simp⟩
theorem Un.write (mu : Mut (H x)) (he : e = x ∨ H e = some (.own x)) (k : ∀ b u, b ≠ e → h.get? b = some u → h'.get? b = some u) (heo : ∃ u, h'.get? e = some u) : Un fs ex H (upd H x o) h h' := by
  have hx : ∀ b, H b = none → b ≠ x := fun b n z => by subst z; rw [n] at mu; exact mu
  have hb : ∀ b, H b = none → b ≠ e := fun b n z => by
    subst z
    rcases he with r | r
    · exact hx b n r
    · rw [n] at r; cases r
  have hm : ∀ b u, H b = some u → ¬ Mut (some u) → b ≠ x := fun b u q nm z => by subst z; rw [q] at mu; exact nm mu
  refine ⟨fun b u q n _ _ => k b u (hb b n) q, fun b u q n _ _ => ⟨u.slots, k b u (hb b n) q⟩, fun b u q n _ => by rw [upd_ne (hx b n)]; exact n, fun b u q _ => ?_,
    fun b xs q => by rw [upd_ne (hm b _ q fun z => z)]; exact q, fun b u xs q => by rw [upd_ne (hm b _ q fun z => z)]; exact q, fun b ps q => ⟨#[], by rw [upd_ne (hm b _ q fun z => z), q]; simp⟩⟩
  by_cases hbe : b = e
  · subst hbe; exact heo
  · exact ⟨u, k b u hbe q⟩
end
def trk (h : Heap) (H : Hp) : List Addr := (List.range h.objs.size).filter fun a => (H a).isSome
def hidT (h : Heap) (H : Hp) : Heap := PySem.W.hideAll h (trk h H)
theorem hidT_size (h : Heap) (H : Hp) : (hidT h H).objs.size = h.objs.size := PySem.W.hideAll_size _ _
theorem hidT_get {h : Heap} {H : Hp} {b : Addr} {o : Obj} (e : h.get? b = some o) (n : H b = none) : (hidT h H).get? b = some o :=
  PySem.W.hideAll_get _ e fun hm => by
    have q : (H b).isSome = true := (List.mem_filter.mp hm).2
    rw [n] at q; simp at q
theorem of_hidT {h : Heap} {H : Hp} {b : Addr} {o : Obj} (e : (hidT h H).get? b = some o) : h.get? b = some o ∧ H b = none := by
  have e' : h.get? b = some o := PySem.W.of_hideAll (trk h H) e
  refine ⟨e', ?_⟩
  cases q : H b with
  | none => rfl
  | some x =>
    have hm : b ∈ trk h H := List.mem_filter.mpr ⟨List.mem_range.mpr (Heap.lt_size e'), by simp [q]⟩
    have z : (hidT h H).get? b = none := PySem.W.hideAll_none (trk h H) hm
    rw [z] at e; cases e
def allNews (g h : Heap) (L : Addr) : List (Addr × Obj) := (List.range h.objs.size).filterMap fun a => if a = L ∨ (g.get? a).isSome = true then none else (h.get? a).map fun o => (a, o)
def rest (g h : Heap) (L d : Addr) : List (Addr × Obj) := (allNews g h L).filter fun p => decide (p.1 ≠ d)
end L2

namespace L2
open PySem PySem.Spec PyProof.Rows
structure Mod (K : PySem.W.Frag) (mg : Str → Option Value) (base : Heap) : Prop where
  kin : K.In base
  glob : base.Ns mainGlobals mg
  blt : ∃ mb, base.Ns builtinsNs mb ∧ ∀ x : Str, x ≠ "__name__" → mb x = bootBuiltins x
  nolimit : base.NoLimit

/-- the context: a def's body (or a comprehension's block) running. base: fixed through the whole law; s₀, H₀: the entry; outer: the frames whose slots others may change (a def's callers); stack: all frames that run;
   ex: iterators that were made ahead of the entry and are walked here (a comprehension's); fn: the names whose cells were made at the entry (a def: all; a comprehension's block: its own); calm: not within an except suite; pn: pins that every state bears; xe: what is wanted of an exception that leaves the code -/
structure Cx where
  prog : Program
  w : World
  K : PySem.W.Frag
  mg : Str → Option Value
  base : Heap
  A : Around
  N : List Str
  s₀ : Shared
  H₀ : Hp
  env : Env
  outer : List Env
  stack : List Env
  ex : List Addr
  fn : Str → Bool
  calm : Bool
  pn : List (Addr × Obj)
  xe : Value → Shared → Prop
def frs (l : List Env) : List Addr := l.filterMap (·.frame)
abbrev Cx.fs (X : Cx) : List Addr := frs X.outer

def Vis (sc : Scope) (x : Str) : Prop := sc.names.lookup x = some .local ∨ sc.names.lookup x = some .cell ∨ sc.names.lookup x = some .free
def Loc (sc : Scope) (x : Str) : Prop := sc.names.lookup x = some .local ∨ sc.names.lookup x = some .cell
def Look (env : Env) (h : Heap) (m : Str → Option Value) (x : Str) (u : Value) : Prop :=
  (env.kindOf x = some .local ∧ m x = some u) ∨ ((env.kindOf x = some .cell ∨ env.kindOf x = some .free) ∧ ∃ c, env.cells.lookup x = some c ∧ h.IsCell c (some u))

structure Cx.Ok (X : Cx) : Prop where
  mod : Mod X.K X.mg X.base
  kind : X.env.scope.kind = .function
  glob : X.env.globals = mainGlobals
  blt : X.env.builtins = builtinsNs
  above : X.s₀.heap.objs.size ≤ X.env.locals
  inj : ∀ x y c, X.env.cells.lookup x = some c → X.env.cells.lookup y = some c → x = y
  has : ∀ x, (X.env.kindOf x = some .cell ∨ X.env.kindOf x = some .free) → ∃ c, X.env.cells.lookup x = some c
  cab : ∀ x c, X.fn x = true → X.env.cells.lookup x = some c → X.s₀.heap.objs.size ≤ c
  hd : X.calm = true → X.A.handled = none
  frames : X.A.frames = some X.stack
  stk : X.stack = X.outer ∨ (X.stack = X.env :: X.outer ∧ X.env.frame = some X.env.locals)
  exf : ∀ b ∈ X.ex, b ≠ X.env.locals ∧ ∀ x c, X.env.cells.lookup x = some c → c ≠ b
  bs : ∀ b o, X.base.get? b = some o → X.s₀.heap.get? b = some o ∧ X.H₀ b = none
  bsz : X.base.objs.size ≤ X.s₀.heap.objs.size
  noex : ∀ b o, X.base.get? b = some o → b ∉ X.ex
  exfs : ∀ b ∈ X.ex, b ∉ X.fs
  funs : X.s₀.heap.FunFrames X.base X.outer
  frf : ∀ b ∈ X.fs, X.H₀ b = none

structure Inv (X : Cx) (pins : List (Addr × Obj)) (σ : List (Option V)) (H : Hp) (s : Shared) : Prop where
  ok : X.Ok
  os : s.os = X.s₀.os
  bare : AllBare s.gens
  base : Un X.fs X.ex X.H₀ H X.s₀.heap s.heap
  loc : ∃ m, s.heap.Ns X.env.locals m ∧ ∀ (i : Nat) (x : Str) (v : V), X.N[i]? = some x → σ[i]? = some (some v) → Vis X.env.scope x → ∃ u, RelV v u ∧ Look X.env s.heap m x u
  cell : ∀ x c, X.env.cells.lookup x = some c → ∃ v, s.heap.IsCell c v
  free : H X.env.locals = none
  freeC : ∀ x c, X.env.cells.lookup x = some c → H c = none
  pin : ∀ p ∈ X.pn ++ pins, s.heap.get? p.1 = some p.2 ∧ H p.1 = none ∧ p.1 ≠ X.env.locals ∧ p.1 ∉ X.fs ∧ ∀ v, p.2.data ≠ .cell v
  hok : HOk X.prog X.w H s.heap
  len : σ.length = X.N.length

section
variable {X : Cx} {pins : List (Addr × Obj)} {σ : List (Option V)} {H H' : Hp} {s : Shared} {h' : Heap}

theorem Cx.Ok.nofr (ok : X.Ok) {b : Addr} {o : Obj} (e : X.base.get? b = some o) : b ∉ X.fs := fun hb => by
  have := (ok.funs.mem hb).1
  rw [e] at this; cases this
theorem Inv.bs (I : Inv X pins σ H s) : ∀ b o, X.base.get? b = some o → s.heap.get? b = some o ∧ H b = none := fun b o e =>
  ⟨I.base.keep b o (I.ok.bs b o e).1 (I.ok.bs b o e).2 (I.ok.nofr e) (I.ok.noex b o e), I.base.free b o (I.ok.bs b o e).1 (I.ok.bs b o e).2 (I.ok.noex b o e)⟩
theorem Inv.bk (I : Inv X pins σ H s) : ∀ b o, X.base.get? b = some o → s.heap.get? b = some o := fun b o e => (I.bs b o e).1
theorem Inv.mod (I : Inv X pins σ H s) : Mod X.K X.mg X.base := I.ok.mod
theorem Inv.kIn (I : Inv X pins σ H s) : X.K.In s.heap := I.ok.mod.kin.keeps I.bk
theorem Inv.lt (I : Inv X pins σ H s) : X.env.locals < s.heap.objs.size := let ⟨_, hn, _⟩ := I.loc; hn.lt
theorem Inv.sz (I : Inv X pins σ H s) : X.s₀.heap.objs.size ≤ s.heap.objs.size := Nat.le_trans I.ok.above (Nat.le_of_lt I.lt)
theorem Inv.nofs (I : Inv X pins σ H s) {a : Addr} (h : s.heap.objs.size ≤ a) : a ∉ X.fs := fun hb => by
  obtain ⟨_, o, ho, _⟩ := I.ok.funs.mem hb
  exact absurd (Nat.lt_of_lt_of_le (Heap.lt_size ho) (Nat.le_trans I.sz h)) (Nat.lt_irrefl _)
theorem Inv.cne (I : Inv X pins σ H s) : ∀ x c, X.env.cells.lookup x = some c → c ≠ X.env.locals := fun x c e z => by
  obtain ⟨v, o, ho, hd⟩ := I.cell x c e
  obtain ⟨m, ⟨o', es, ep, ho', hd', _⟩, _⟩ := I.loc
  rw [z, ho'] at ho; cases ho; rw [hd'] at hd; cases hd
theorem Inv.funs (I : Inv X pins σ H s) : s.heap.FunFrames X.base X.outer := by
  have all : ∀ (l : List Env), (∀ b ∈ frs l, b ∈ X.fs) → X.s₀.heap.FunFrames X.base l → s.heap.FunFrames X.base l := by
    intro l
    induction l with
    | nil => intro _ _; trivial
    | cons env r ih =>
      intro hs hl
      obtain ⟨hk, ⟨L, o, hf, hn, ho, hd⟩, hr⟩ := hl
      have hL : L ∈ X.fs := hs L (by unfold frs; rw [List.filterMap_cons, hf]; exact List.mem_cons_self)
      obtain ⟨sl, e⟩ := I.base.slot L o ho (I.ok.frf L hL) hL fun z => I.ok.exfs L z hL
      exact ⟨hk, ⟨L, _, hf, hn, e, hd⟩, ih (fun b hb => hs b (by unfold frs; rw [List.filterMap_cons, hf]; exact List.mem_cons_of_mem _ hb)) hr⟩
  exact all X.outer (fun _ hb => hb) I.ok.funs
theorem Inv.stack (I : Inv X pins σ H s) : s.heap.FunFrames X.base X.stack := by
  rcases I.ok.stk with e | ⟨e, hf⟩
  · rw [e]; exact I.funs
  · rw [e]
    obtain ⟨m, hn, _⟩ := I.loc
    refine .cons (by rw [I.ok.kind]; decide) hf hn ?_ I.funs
    exact Heap.get?_none_of_le (Nat.le_trans I.ok.bsz I.ok.above)
theorem Inv.stkSub (I : Inv X pins σ H s) : ∀ b ∈ frs X.stack, b ∈ X.env.locals :: X.fs := fun b hb => by
  rcases I.ok.stk with e | ⟨e, hf⟩
  · rw [e] at hb; exact List.mem_cons_of_mem _ hb
  · rw [e] at hb
    unfold frs at hb
    rw [List.filterMap_cons, hf] at hb
    exact hb
theorem Inv.stkFree (I : Inv X pins σ H s) : ∀ b ∈ frs X.stack, H b = none := fun b hb => by
  rcases List.mem_cons.mp (I.stkSub b hb) with e | hb
  · rw [e]; exact I.free
  · obtain ⟨_, o, ho, _⟩ := I.ok.funs.mem hb
    exact I.base.free b o ho (I.ok.frf b hb) fun z => I.ok.exfs b z hb
theorem Inv.step {g' : Array GenState} {t' : Nat} {d' : Drawn} {ch : List Addr} (I : Inv X pins σ H s)
    (hch : ∀ b ∈ ch, (b ∈ X.ex ∨ X.s₀.heap.objs.size ≤ b) ∧ b ≠ X.env.locals ∧ (∀ x c, X.env.cells.lookup x = some c → c ≠ b) ∧ ∀ p ∈ X.pn ++ pins, p.1 ≠ b)
    (keep : ∀ b o, b ≠ X.env.locals → b ∉ X.fs → b ∉ ch → s.heap.get? b = some o → H b = none → h'.get? b = some o)
    (slot : ∀ b o, b ≠ X.env.locals → b ∈ X.fs → b ∉ ch → s.heap.get? b = some o → H b = none → ∃ sl, h'.get? b = some { o with slots := sl }) (free : ∀ b o, b ∉ ch → s.heap.get? b = some o → H b = none → H' b = none)
    (there : ∀ b o, b ∉ ch → s.heap.get? b = some o → ∃ o', h'.get? b = some o')
    (tups : ∀ b xs, H b = some (.tup xs) → H' b = some (.tup xs)) (frzs : ∀ b o u, H b = some (.frz o u) → H' b = some (.frz o u)) (tbls : ∀ b ps, H b = some (.tbl ps) → ∃ more, H' b = some (.tbl (ps ++ more)))
    (ns : ∀ m, s.heap.Ns X.env.locals m → h'.Ns X.env.locals m) (hok : HOk X.prog X.w H' h') (hg : AllBare g') :
    Inv X pins σ H' { s with heap := h', gens := g', drawn := d', toks := t' } := by
  have neL : ∀ b o, X.s₀.heap.get? b = some o → b ≠ X.env.locals := fun b o e => Nat.ne_of_lt (Nat.lt_of_lt_of_le (Heap.lt_size e) I.ok.above)
  have neC : ∀ b o, X.s₀.heap.get? b = some o → b ∉ X.ex → b ∉ ch := fun b o e hx hb => by
    rcases (hch b hb).1 with z | z
    · exact hx z
    · exact absurd (Nat.lt_of_lt_of_le (Heap.lt_size e) z) (Nat.lt_irrefl _)
  have cellK : ∀ x c, X.env.cells.lookup x = some c → ∀ v, s.heap.IsCell c v → h'.IsCell c v := fun x c e v ⟨o, ho, hd⟩ => by
    have nch : c ∉ ch := fun z => (hch c z).2.2.1 x c e rfl
    by_cases hc : c ∈ X.fs
    · obtain ⟨sl, q⟩ := slot c o (I.cne x c e) hc nch ho (I.freeC x c e)
      exact ⟨_, q, hd⟩
    · exact ⟨o, keep c o (I.cne x c e) hc nch ho (I.freeC x c e), hd⟩
  refine ⟨I.ok, I.os, hg, ⟨fun b o e n hb hx => ?_, fun b o e n hb hx => ?_, fun b o e n hx => ?_, fun b o e hx => ?_, fun b xs e => tups b xs (I.base.tups b xs e), fun b o xs e => frzs b o xs (I.base.frzs b o xs e), fun b ps e => ?_⟩, ?_, fun x c e => ?_, ?_, fun x c e => ?_, fun p hp => ?_, hok, I.len⟩
  · exact keep b o (neL b o e) hb (neC b o e hx) (I.base.keep b o e n hb hx) (I.base.free b o e n hx)
  · obtain ⟨sl, e1⟩ := I.base.slot b o e n hb hx
    obtain ⟨sl', e2⟩ := slot b _ (neL b o e) hb (neC b o e hx) e1 (I.base.free b o e n hx)
    exact ⟨sl', e2⟩
  · obtain ⟨o', e1⟩ := I.base.there b o e hx
    exact free b o' (neC b o e hx) e1 (I.base.free b o e n hx)
  · obtain ⟨o', e1⟩ := I.base.there b o e hx
    exact there b o' (neC b o e hx) e1
  · obtain ⟨m1, e1⟩ := I.base.tbls b ps e
    obtain ⟨m2, e2⟩ := tbls b _ e1
    exact ⟨m1 ++ m2, by rw [e2, Array.append_assoc]⟩
  · obtain ⟨m, hn, hl⟩ := I.loc
    refine ⟨m, ns m hn, fun i x v e1 e2 e3 => ?_⟩
    obtain ⟨u, r, l⟩ := hl i x v e1 e2 e3
    refine ⟨u, r, ?_⟩
    rcases l with l | ⟨k, c, e, z⟩
    · exact .inl l
    · exact .inr ⟨k, c, e, cellK x c e _ z⟩
  · obtain ⟨v, z⟩ := I.cell x c e
    exact ⟨v, cellK x c e v z⟩
  · obtain ⟨m, ⟨o, _, _, ho, _⟩, _⟩ := I.loc
    exact free _ o (fun z => (hch _ z).2.1 rfl) ho I.free
  · obtain ⟨v, o, ho, hd⟩ := I.cell x c e
    exact free c o (fun z => (hch c z).2.2.1 x c e rfl) ho (I.freeC x c e)
  · obtain ⟨e, n, ne, nf, d⟩ := I.pin p hp
    have nch : p.1 ∉ ch := fun z => (hch p.1 z).2.2.2 p hp rfl
    exact ⟨keep p.1 p.2 ne nf nch e n, free p.1 p.2 nch e n, ne, nf, d⟩
theorem Inv.un {t' : Nat} (I : Inv X pins σ H s) (u : Un X.fs [] H H' s.heap h') (hok : HOk X.prog X.w H' h') : Inv X pins σ H' { s with heap := h', toks := t' } := by
  obtain ⟨m, ⟨o, es, ep, ho, r⟩, _⟩ := id I.loc
  obtain ⟨sl, hL⟩ := u.any ho I.free (by simp)
  exact I.step (g' := s.gens) (d' := s.drawn) (ch := []) (fun _ z => nomatch z) (fun b o _ hb _ e n => u.keep b o e n hb (by simp)) (fun b o _ hb _ e n => u.slot b o e n hb (by simp)) (fun b o _ e n => u.free b o e n (by simp)) (fun b o _ e => u.there b o e (by simp)) u.tups u.frzs u.tbls (fun m' hm => by
    obtain ⟨o', es', ep', ho', r'⟩ := hm
    rw [ho] at ho'; cases ho'
    exact ⟨_, es', ep', hL, r'⟩) hok I.bare
theorem Inv.call {g' : Array GenState} {t' : Nat} {d' : Drawn} {ch : List Addr} (I : Inv X pins σ H s) (u : Un (frs X.stack) ch H H' s.heap h') (hok : HOk X.prog X.w H' h') (hg : AllBare g')
    (hch : ∀ b ∈ ch, (b ∈ X.ex ∨ X.s₀.heap.objs.size ≤ b) ∧ b ≠ X.env.locals ∧ (∀ x c, X.env.cells.lookup x = some c → c ≠ b) ∧ ∀ p ∈ X.pn ++ pins, p.1 ≠ b) :
    Inv X pins σ H' { s with heap := h', gens := g', drawn := d', toks := t' } := by
  obtain ⟨m, ⟨o, es, ep, ho, r⟩, _⟩ := id I.loc
  obtain ⟨sl, hL⟩ := u.any ho I.free fun z => (hch _ z).2.1 rfl
  exact I.step (ch := ch) hch (fun b o hL hb hc e n => u.keep b o e n (fun z => (List.mem_cons.mp (I.stkSub b z)).elim hL hb) hc) (fun b o _ _ hc e n => u.any e n hc) (fun b o hc e n => u.free b o e n hc) (fun b o hc e => u.there b o e hc) u.tups u.frzs u.tbls (fun m' hm => by
    obtain ⟨o', es', ep', ho', r'⟩ := hm
    rw [ho] at ho'; cases ho'
    exact ⟨_, es', ep', hL, r'⟩) hok hg
theorem Inv.turned {t' : Nat} {it : Addr} (I : Inv X pins σ H s) (k : ∀ b o, b ≠ it → s.heap.get? b = some o → h'.get? b = some o) (hn : H it = none) (hL : it ≠ X.env.locals)
    (h1 : it ∈ X.ex ∨ X.s₀.heap.objs.size ≤ it) (h2 : ∀ x c, X.env.cells.lookup x = some c → c ≠ it) (h3 : ∀ p ∈ X.pn ++ pins, p.1 ≠ it) : Inv X pins σ H { s with heap := h', toks := t' } := by
  have nit : ∀ b u, H b = some u → b ≠ it := fun b u e z => by rw [z, hn] at e; cases e
  refine I.step (g' := s.gens) (d' := s.drawn) (ch := [it]) (fun b hb => ?_) (fun b o _ _ hc e _ => k b o (fun z => hc (by simp [z])) e) (fun b o _ _ hc e _ => ⟨o.slots, k b o (fun z => hc (by simp [z])) e⟩) (fun _ _ _ _ n => n)
    (fun b o hc e => ⟨o, k b o (fun z => hc (by simp [z])) e⟩) (fun _ _ e => e) (fun _ _ _ e => e) (fun b ps e => ⟨#[], by rw [e]; simp⟩) (fun m hm => ?_) (fun b u e => ?_) I.bare
  · have e : b = it := by simpa using hb
    subst e
    exact ⟨h1, hL, h2, h3⟩
  · obtain ⟨o, es, ep, ho, r⟩ := hm
    exact ⟨o, es, ep, k _ o (Ne.symm hL) ho, r⟩
  · refine (I.hok b u e).stay (fun c v hc q => k c v ?_ q) (fun _ q => q) fun _ _ q => q
    rcases hc with z | z
    · rw [z]; exact nit b u e
    · exact nit c _ z
theorem Inv.tok (I : Inv X pins σ H s) (t : Nat) : Inv X pins σ H { s with toks := t } := I.un (h' := s.heap) (t' := t) Un.refl I.hok
theorem Inv.kept {t' : Nat} (I : Inv X pins σ H s) (k : ∀ b u, s.heap.get? b = some u → h'.get? b = some u) : Inv X pins σ H { s with heap := h', toks := t' } := I.un (Un.kept k) (I.hok.kept k)
theorem Inv.laid {a : Addr} {o : HO} {t' : Nat} (I : Inv X pins σ H s) (k : ∀ b u, s.heap.get? b = some u → h'.get? b = some u) (hp : s.heap.objs.size ≤ a) (new : ObjOk X.prog X.w (upd H a o) h' a o) :
    Inv X pins σ (upd H a o) { s with heap := h', toks := t' } := I.un (Un.laid k hp (I.hok.fresh hp)) (I.hok.laid k hp new)
theorem Inv.write {x e : Addr} {o : HO} {t' : Nat} (I : Inv X pins σ H s) (mu : Mut (H x)) (he : e = x ∨ H e = some (.own x)) (k : ∀ b u, b ≠ e → s.heap.get? b = some u → h'.get? b = some u) (heo : ∃ u, h'.get? e = some u)
    (new : ObjOk X.prog X.w (upd H x o) h' x o) : Inv X pins σ (upd H x o) { s with heap := h', toks := t' } := I.un (Un.write mu he k heo) (I.hok.write mu he k heo new)
theorem Inv.pins_of {pins' : List (Addr × Obj)} (I : Inv X pins σ H s) (h : ∀ p ∈ pins', s.heap.get? p.1 = some p.2 ∧ H p.1 = none ∧ p.1 ≠ X.env.locals ∧ p.1 ∉ X.fs ∧ ∀ v, p.2.data ≠ .cell v) : Inv X pins' σ H s :=
  ⟨I.ok, I.os, I.bare, I.base, I.loc, I.cell, I.free, I.freeC, fun p hp => (List.mem_append.mp hp).elim (fun z => I.pin p (List.mem_append_left _ z)) (h p), I.hok, I.len⟩

theorem nodup_ix {N : List Str} (hN : N.Nodup) {i j : Nat} {x : Str} (a : N[i]? = some x) (b : N[j]? = some x) : i = j := by
  obtain ⟨h1, e1⟩ := List.getElem?_eq_some_iff.mp a
  obtain ⟨h2, e2⟩ := List.getElem?_eq_some_iff.mp b
  exact (List.getElem_inj hN).mp (e1.trans e2.symm)
theorem store_ok2 {M : Model} {A : Around} {E : Value → Shared → Prop} {i : Nat} {x : Str} {v : V} {u : Value} {Q : Unit → Shared → Prop} (I : Inv X pins σ H s) (hN : X.N.Nodup) (hi : X.N[i]? = some x) (hx : Loc X.env.scope x) (r : RelV v u)
    (h : ∀ s', Inv X pins (σ.set i (some v)) H s' → (∃ a, Heap.SameBut a s.heap s'.heap ∧ (a = X.env.locals ∨ X.env.cells.lookup x = some a)) → Q () s') (hf : X.fn x = true ∨ X.env.scope.names.lookup x = some .local := by first | exact .inl rfl | exact .inr rfl | assumption) : wpAny M A (storeName X.env x u) Q E s := by
  obtain ⟨m, hn, hl⟩ := id I.loc
  have hcls : (X.env.scope.kind == .class || (X.env.scope.kind == .module && X.env.locals != X.env.globals)) = false := by rw [I.ok.kind]; rfl
  have hiσ : i < σ.length := by rw [I.len]; exact (List.getElem?_eq_some_iff.mp hi).1
  have cne := I.cne
  have tracked : ∀ {a : Addr} {h' : Heap}, (∃ o, s.heap.get? a = some o ∧ H a = none) → Heap.SameBut a s.heap h' → HOk X.prog X.w H h' := fun {a h'} ha hs b ob e => by
    obtain ⟨_, _, hfree⟩ := ha
    refine (I.hok b ob e).stay (fun c w' hc q => (hs.2 c ?_).trans q) (fun _ q => q) fun _ _ q => q
    rintro rfl
    rcases hc with rfl | hc
    · rw [hfree] at e; cases e
    · rw [hfree] at hc; cases hc
  rcases hx with hk | hk
  · refine wpAny_storeName_local hk hn (fun h' hn' hs => ?_) hcls
    obtain ⟨oL, _, _, hoL, _⟩ := id hn
    refine h _ ⟨I.ok, I.os, I.bare, ⟨fun b o e n hb hx => ?_, fun b o e n hb hx => ?_, I.base.free, fun b o e hx => ?_, I.base.tups, I.base.frzs, I.base.tbls⟩, ⟨_, hn', fun j y v' e1 e2 e3 => ?_⟩, fun y c e => ?_, I.free, I.freeC, fun p hp => ?_, tracked ⟨oL, hoL, I.free⟩ hs, by simpa using I.len⟩ ⟨_, hs, .inl rfl⟩
    · exact (hs.2 b (Nat.ne_of_lt (Nat.lt_of_lt_of_le (Heap.lt_size e) I.ok.above))).trans (I.base.keep b o e n hb hx)
    · obtain ⟨sl, e1⟩ := I.base.slot b o e n hb hx
      exact ⟨sl, (hs.2 b (Nat.ne_of_lt (Nat.lt_of_lt_of_le (Heap.lt_size e) I.ok.above))).trans e1⟩
    · obtain ⟨o', e1⟩ := I.base.there b o e hx
      exact ⟨o', (hs.2 b (Nat.ne_of_lt (Nat.lt_of_lt_of_le (Heap.lt_size e) I.ok.above))).trans e1⟩
    · by_cases hj : j = i
      · subst hj
        rw [hi] at e1; cases e1
        rw [List.getElem?_set_self hiσ] at e2
        cases e2
        exact ⟨u, r, .inl ⟨hk, by simp⟩⟩
      · rw [List.getElem?_set_ne (Ne.symm hj)] at e2
        obtain ⟨u', r', q⟩ := hl j y v' e1 e2 e3
        refine ⟨u', r', ?_⟩
        rcases q with ⟨k, e⟩ | ⟨k, c, e, z⟩
        · refine .inl ⟨k, ?_⟩
          have : y ≠ x := fun e => hj (nodup_ix hN e1 (e ▸ hi))
          simp [this, e]
        · exact .inr ⟨k, c, e, z.sameBut hs (cne y c e)⟩
    · obtain ⟨w', z⟩ := I.cell y c e
      exact ⟨w', z.sameBut hs (cne y c e)⟩
    · obtain ⟨e, n, ne, nf, d⟩ := I.pin p hp
      exact ⟨(hs.2 p.1 ne).trans e, n, ne, nf, d⟩
  · have hfn : X.fn x = true := by
      rcases hf with z | z
      · exact z
      · rw [z] at hk; cases hk
    obtain ⟨c, hc⟩ := I.ok.has x (.inl hk)
    obtain ⟨w', z⟩ := I.cell x c hc
    refine wpAny_storeName_cell I.ok.kind hk hc z (fun h' hc' hs => ?_)
    obtain ⟨oc, hoc, hocd⟩ := id z
    refine h { s with heap := h' } ⟨I.ok, I.os, I.bare, ⟨fun b o e n hb hx => ?_, fun b o e n hb hx => ?_, I.base.free, fun b o e hx => ?_, I.base.tups, I.base.frzs, I.base.tbls⟩, ⟨m, hn.sameBut hs (Ne.symm (cne x c hc)), fun j y v' e1 e2 e3 => ?_⟩, fun y c' e => ?_, I.free, I.freeC, fun p hp => ?_, tracked ⟨oc, hoc, I.freeC x c hc⟩ hs, by simpa using I.len⟩ ⟨c, hs, .inr hc⟩
    · exact (hs.2 b (Nat.ne_of_lt (Nat.lt_of_lt_of_le (Heap.lt_size e) (I.ok.cab x c hfn hc)))).trans (I.base.keep b o e n hb hx)
    · obtain ⟨sl, e1⟩ := I.base.slot b o e n hb hx
      exact ⟨sl, (hs.2 b (Nat.ne_of_lt (Nat.lt_of_lt_of_le (Heap.lt_size e) (I.ok.cab x c hfn hc)))).trans e1⟩
    · obtain ⟨o', e1⟩ := I.base.there b o e hx
      exact ⟨o', (hs.2 b (Nat.ne_of_lt (Nat.lt_of_lt_of_le (Heap.lt_size e) (I.ok.cab x c hfn hc)))).trans e1⟩
    · by_cases hj : j = i
      · subst hj
        rw [hi] at e1; cases e1
        rw [List.getElem?_set_self hiσ] at e2
        cases e2
        exact ⟨u, r, .inr ⟨.inl hk, c, hc, hc'⟩⟩
      · rw [List.getElem?_set_ne (Ne.symm hj)] at e2
        obtain ⟨u', r', q⟩ := hl j y v' e1 e2 e3
        refine ⟨u', r', ?_⟩
        rcases q with q | ⟨k, c', e, z'⟩
        · exact .inl q
        · refine .inr ⟨k, c', e, z'.sameBut hs ?_⟩
          rintro rfl
          exact hj (nodup_ix hN e1 (I.ok.inj _ _ _ e hc ▸ hi))
    · by_cases hcc : c' = c
      · subst hcc; exact ⟨_, hc'⟩
      · obtain ⟨w2, z2⟩ := I.cell y c' e
        exact ⟨w2, z2.sameBut hs hcc⟩
    · obtain ⟨e, n, ne, nf, d⟩ := I.pin p hp
      refine ⟨(hs.2 p.1 ?_).trans e, n, ne, nf, d⟩
      intro q
      rw [q, hoc] at e
      have q' : oc = p.2 := Option.some.inj e
      exact d w' (by rw [← q']; exact hocd)
theorem store_ok {M : Model} {A : Around} {E : Value → Shared → Prop} {i : Nat} {x : Str} {v : V} {u : Value} {Q : Unit → Shared → Prop} (I : Inv X pins σ H s) (hN : X.N.Nodup) (hi : X.N[i]? = some x) (hx : Loc X.env.scope x) (r : RelV v u)
    (h : ∀ s', Inv X pins (σ.set i (some v)) H s' → Q () s') (hf : X.fn x = true ∨ X.env.scope.names.lookup x = some .local := by first | exact .inl rfl | exact .inr rfl | assumption) : wpAny M A (storeName X.env x u) Q E s :=
  store_ok2 I hN hi hx r (fun s' I' _ => h s' I') hf
theorem Inv.call' {s' : Shared} {ch : List Addr} (I : Inv X pins σ H s) (ho : s'.os = s.os) (u : Un (frs X.stack) ch H H' s.heap s'.heap) (hok : HOk X.prog X.w H' s'.heap) (hg : AllBare s'.gens)
    (hch : ∀ b ∈ ch, (b ∈ X.ex ∨ X.s₀.heap.objs.size ≤ b) ∧ b ≠ X.env.locals ∧ (∀ x c, X.env.cells.lookup x = some c → c ≠ b) ∧ ∀ p ∈ X.pn ++ pins, p.1 ≠ b) : Inv X pins σ H' s' := by
  obtain ⟨h', g', d', t', o'⟩ := s'
  have e : o' = s.os := ho
  subst e
  exact I.call (g' := g') (t' := t') (d' := d') u hok hg hch
end
abbrev XK := Value → Option Addr → Hp → Prop
abbrev St := List (Option V)
abbrev VK := V → Hp → Prop
abbrev TE := St → Hp → VK → Prop
abbrev TT := St → Hp → (Bool → Hp → Prop) → Prop
abbrev TA := St → Hp → (List V → Hp → Prop) → Prop
structure Ends where
  nx : St → Hp → Prop
  rt : VK
  bk : St → Hp → Prop := fun _ _ => False
  ct : St → Hp → Prop := fun _ _ => False
abbrev TS := Ends → St → Hp → Prop

def EP (X : Cx) (pins : List (Addr × Obj)) (σ : St) (Q : VK) (u : Value) (s' : Shared) : Prop := ∃ v H', Inv X pins σ H' s' ∧ RelV v u ∧ Q v H'
def TP (X : Cx) (pins : List (Addr × Obj)) (σ : St) (Q : Bool → Hp → Prop) (b : Bool) (s' : Shared) : Prop := ∃ H', Inv X pins σ H' s' ∧ Q b H'
def AP (X : Cx) (pins : List (Addr × Obj)) (σ : St) (Q : List V → Hp → Prop) (us : List Value) (s' : Shared) : Prop := ∃ vs H', Inv X pins σ H' s' ∧ Vals vs us ∧ Q vs H'
def SP (X : Cx) (pins : List (Addr × Obj)) (D : Ends) (f : Flow) (s' : Shared) : Prop :=
  match f with
  | .next => ∃ σ' H', Inv X pins σ' H' s' ∧ D.nx σ' H'
  | .brk => ∃ σ' H', Inv X pins σ' H' s' ∧ D.bk σ' H'
  | .cont => ∃ σ' H', Inv X pins σ' H' s' ∧ D.ct σ' H'
  | .ret u => ∃ v σ' H', Inv X pins σ' H' s' ∧ RelV v u ∧ D.rt v H'

def PE (X : Cx) (e : Expr) (t : TE) : Prop :=
  ∀ (pins : List (Addr × Obj)) (s : Shared) (σ : St) (H : Hp) (Q : VK), Inv X pins σ H s → t σ H Q → wpAny (model X.prog X.w) X.A (eval e X.env) (EP X pins σ Q) X.xe s
def PT (X : Cx) (e : Expr) (t : TT) : Prop :=
  ∀ (pins : List (Addr × Obj)) (s : Shared) (σ : St) (H : Hp) (Q : Bool → Hp → Prop), Inv X pins σ H s → t σ H Q → wpAny (model X.prog X.w) X.A (isTrue e X.env (eval e X.env)) (TP X pins σ Q) X.xe s
def PW (X : Cx) (e : Expr) (t : TT) : Prop :=
  ∀ (whole : Sem Value) (pins : List (Addr × Obj)) (s : Shared) (σ : St) (H : Hp) (Q : Bool → Hp → Prop), Inv X pins σ H s → t σ H Q → wpAny (model X.prog X.w) X.A (isTrue e X.env whole) (TP X pins σ Q) X.xe s
theorem PW.pt {X : Cx} {e : Expr} {t : TT} (h : PW X e t) : PT X e t := h _
def PA (X : Cx) (es : List Expr) (t : TA) : Prop :=
  ∀ (pos : Pos) (pins : List (Addr × Obj)) (s : Shared) (σ : St) (H : Hp) (Q : List V → Hp → Prop), Inv X pins σ H s → t σ H Q → wpAny (model X.prog X.w) X.A (spliced (backTo pos (starEach es X.env))) (AP X pins σ Q) X.xe s
def PS (X : Cx) (st : Stmt) (t : TS) : Prop :=
  ∀ (pins : List (Addr × Obj)) (s : Shared) (σ : St) (H : Hp) (D : Ends), Inv X pins σ H s → t D σ H → wpAny (model X.prog X.w) X.A (exec st X.env) (SP X pins D) X.xe s
def PSs (X : Cx) (st : List Stmt) (t : TS) : Prop :=
  ∀ (pins : List (Addr × Obj)) (s : Shared) (σ : St) (H : Hp) (D : Ends), Inv X pins σ H s → t D σ H → wpAny (model X.prog X.w) X.A (execs st X.env) (SP X pins D) X.xe s
theorem thn {α : Type} {t : Sem α} {Q Q' : α → Shared → Prop} {M : Model} {A : Around} {E : Value → Shared → Prop} {s : Shared} (h : wpAny M A t Q E s) (hQ : ∀ a s, Q a s → Q' a s) : wpAny M A t Q' E s := wpAny_mono h hQ fun _ _ x => x
end L2

namespace L2
open PySem PySem.Spec PyProof.Rows
section
variable {X : Cx}
def tVar (i : Nat) : TE := fun σ H Q => ∃ v, σ[i]? = some (some v) ∧ Q v H
def tC (v : V) : TE := fun _ H Q => Q v H
theorem pe_var {i : Nat} {x : Str} {pos : Pos} (hN : X.N[i]? = some x) (hv : Vis X.env.scope x) (hd : (x == ("__debug__" : Str)) = false := by decide) (hcd : (x == ("__classdict__" : Str)) = false := by decide) : PE X (.Name x pos) (tVar i) := by
  intro pins s σ H Q I h
  obtain ⟨v, e, h⟩ := h
  obtain ⟨m, hn, hl⟩ := I.loc
  obtain ⟨u, r, l⟩ := hl i x v hN e hv
  have fin : EP X pins σ Q u s := ⟨v, H, I, r, h⟩
  rcases l with ⟨hk, hm⟩ | ⟨hk, c, hc, hcell⟩
  · exact wpAny_Name (wpAny_loadName_local I.ok.kind hk hn hm fin) hd
  · rcases hk with hk | hk
    · exact wpAny_Name (wpAny_loadName_cell I.ok.kind hk hc hcell fin) hd
    · exact wpAny_Name (wpAny_loadName_free I.ok.kind hk hc hcell fin hcd) hd
theorem pe_int {i j pos} : PE X (.Constant (.int i) j pos) (tC (.int i)) := fun _ _ _ H _ I h => wpAny_Constant_int ⟨.int i, H, I.tok _, ⟨_, rfl⟩, h⟩
theorem pe_bl {b j pos} : PE X (.Constant (.bool b) j pos) (tC (.bl b)) := fun _ _ _ H _ I h => Constant_bool ⟨.bl b, H, I, rfl, h⟩
theorem pe_str {x j pos} : PE X (.Constant (.str x) j pos) (tC (.str x)) := fun _ _ _ H _ I h => Calls.Constant_str ⟨.str x, H, I.tok _, ⟨_, rfl⟩, h⟩
def Gl (X : Cx) (x : Str) : Prop := X.env.kindOf x = some .globalImplicit
theorem ld_glob {E : Value → Shared → Prop} {pins : List (Addr × Obj)} {s : Shared} {σ : St} {H : Hp} {x : Str} {u : Value} {pos : Pos} {Q : Value → Shared → Prop} (I : Inv X pins σ H s) (hg : Gl X x) (hm : X.mg x = some u) (h : Q u s)
    (hd : (x == ("__debug__" : Str)) = false := by decide) : wpAny (model X.prog X.w) X.A (eval (.Name x pos) X.env) Q E s :=
  Calls.Name_function_global I.ok.kind hg (Calls.loadGlobal_global (by rw [I.ok.glob]; exact I.mod.glob.keeps I.bk) hm h) hd
theorem ld_blt {E : Value → Shared → Prop} {pins : List (Addr × Obj)} {s : Shared} {σ : St} {H : Hp} {x : Str} {u : Value} {pos : Pos} {Q : Value → Shared → Prop} (I : Inv X pins σ H s) (hg : Gl X x) (hm : X.mg x = none) (hv : bootBuiltins x = some u) (h : Q u s)
    (hn : x ≠ "__name__" := by decide) (hd : (x == ("__debug__" : Str)) = false := by decide) : wpAny (model X.prog X.w) X.A (eval (.Name x pos) X.env) Q E s := by
  obtain ⟨mb, h1, h2⟩ := I.mod.blt
  exact Calls.Name_function_global I.ok.kind hg (Calls.loadGlobal_builtin (by rw [I.ok.glob]; exact I.mod.glob.keeps I.bk) hm (by rw [I.ok.blt]; exact h1.keeps I.bk) ((h2 x hn).trans hv) h) hd
theorem pe_bltn {x : Str} {v : V} {u : Value} {pos : Pos} (hg : Gl X x) (hm : X.mg x = none) (hv : bootBuiltins x = some u) (r : RelV v u) (hn : x ≠ "__name__" := by decide) (hd : (x == ("__debug__" : Str)) = false := by decide) : PE X (.Name x pos) (tC v) :=
  fun _ _ _ H _ I h => ld_blt I hg hm hv ⟨v, H, I, r, h⟩ hn hd
variable {a b : Expr} {ta tb : TE} {pos : Pos}
def tB (t : TE) : TT := fun σ H Q => t σ H fun x H1 => ∃ c, x = .bl c ∧ Q c H1
variable {tA tB' : TT} {rest : List Expr}
def tAnd (t u : TT) : TT := fun σ H Q => t σ H fun c H1 => if c = true then u σ H1 Q else Q false H1
def tOr (t u : TT) : TT := fun σ H Q => t σ H fun c H1 => if c = true then Q true H1 else u σ H1 Q
def tNot (t : TT) : TT := fun σ H Q => t σ H fun c H1 => Q (!c) H1
theorem pw_and1 (ha : PT X a tA) : PW X (.BoolOp .And [a] pos) tA := by
  intro wh pins s σ H Q I h
  refine isTrue_and (thn (ha pins s σ H Q I h) fun c s1 e => ?_)
  cases c with
  | true => exact isTrue_and_nil e
  | false => exact e
theorem pw_or1 (ha : PT X a tA) : PW X (.BoolOp .Or [a] pos) tA := by
  intro wh pins s σ H Q I h
  refine isTrue_or (thn (ha pins s σ H Q I h) fun c s1 e => ?_)
  cases c with
  | false => exact isTrue_or_nil e
  | true => exact e
theorem pw_and (ha : PT X a tA) (hb : PW X (.BoolOp .And (b :: rest) pos) tB') : PW X (.BoolOp .And (a :: b :: rest) pos) (tAnd tA tB') := by
  intro wh pins s σ H Q I h
  refine isTrue_and (thn (ha pins s σ H _ I h) fun c s1 ⟨H1, I1, q1⟩ => ?_)
  cases c with
  | true => exact hb wh pins s1 σ H1 Q I1 q1
  | false => exact ⟨H1, I1, q1⟩
theorem pw_or (ha : PT X a tA) (hb : PW X (.BoolOp .Or (b :: rest) pos) tB') : PW X (.BoolOp .Or (a :: b :: rest) pos) (tOr tA tB') := by
  intro wh pins s σ H Q I h
  refine isTrue_or (thn (ha pins s σ H _ I h) fun c s1 ⟨H1, I1, q1⟩ => ?_)
  cases c with
  | true => exact ⟨H1, I1, q1⟩
  | false => exact hb wh pins s1 σ H1 Q I1 q1
theorem pt_not (ha : PT X a tA) : PT X (.UnaryOp .Not a pos) (tNot tA) := by
  intro pins s σ H Q I h
  exact isTrue_not (ha pins s σ H (fun c H1 => Q (!c) H1) I h)
def tAndV (ta tb : TE) : TE := fun σ H Q => ta σ H fun x H1 => ∃ c, x = .bl c ∧ if c = true then tb σ H1 Q else Q (.bl false) H1
def tNotV (ta : TE) : TE := fun σ H Q => ta σ H fun x H1 => ∃ c, x = .bl c ∧ Q (.bl (!c)) H1
theorem pe_one {op} {t : TE} (h : PE X a t) : PE X (.BoolOp op [a] pos) t := fun pins s σ H Q I hw => BoolOp_one (h pins s σ H Q I hw)
theorem pe_and (ha : PE X a ta) (hb : PE X (.BoolOp .And (b :: rest) pos) tb) : PE X (.BoolOp .And (a :: b :: rest) pos) (tAndV ta tb) := by
  intro pins s σ H Q I h
  refine BoolOp_and (thn (ha pins s σ H _ I h) fun v s1 ⟨x, H1, I1, r1, q1⟩ => ?_)
  obtain ⟨c, rfl, q1⟩ := q1
  cases r1
  refine wpAny_truthy_bool ?_
  cases c with
  | true => exact hb pins s1 σ H1 Q I1 q1
  | false => exact ⟨.bl false, H1, I1, rfl, q1⟩
theorem pe_not (ha : PE X a ta) : PE X (.UnaryOp .Not a pos) (tNotV ta) := by
  intro pins s σ H Q I h
  refine UnaryOp_ (thn (ha pins s σ H _ I h) fun v s1 ⟨x, H1, I1, r1, q1⟩ => ?_)
  obtain ⟨c, rfl, q1⟩ := q1
  cases r1
  exact not_of (wpAny_truthy_bool ⟨.bl (!c), H1, I1, rfl, q1⟩)
def tIf (t : TT) (ta tb : TE) : TE := fun σ H Q => t σ H fun c H1 => if c = true then ta σ H1 Q else tb σ H1 Q
theorem pe_ifExp {c : Expr} (hc : PT X c tA) (ha : PE X a ta) (hb : PE X b tb) : PE X (.IfExp c a b pos) (tIf tA ta tb) := by
  intro pins s σ H Q I h
  refine wpAny_IfExp (thn (hc pins s σ H _ I h) fun d s1 ⟨H1, I1, q1⟩ => ?_)
  cases d with
  | true => exact ha pins s1 σ H1 Q I1 q1
  | false => exact hb pins s1 σ H1 Q I1 q1
end
end L2

namespace L2
open PySem PySem.Spec PyProof.Rows
def SqL (K : PySem.W.Frag) (H : Hp) (a : Addr) (xs : List V) : Prop :=
  Rd H a (.lst xs) ∨
    ∃ (o : Obj) (its : Array Value) (n : Nat), K.lookup a = some o ∧ o.cls = .type "list" ∧ o.dict = none ∧ o.data = .seq its n ∧ its.size ≤ sizeLine ∧ Vals xs its.toList
def SqT (K : PySem.W.Frag) (H : Hp) (a : Addr) (xs : List V) : Prop :=
  Rd H a (.tup xs) ∨
    ∃ (o : Obj) (its : Array Value) (n : Nat), K.lookup a = some o ∧ o.cls = .type "tuple" ∧ o.data = .seq its n ∧ its.size ≤ sizeLine ∧ Vals xs its.toList
def absV : Value → Option V
  | .none => some .non
  | .bool b => some (.bl b)
  | .int i _ => some (.int i)
  | .str x _ => some (.str x)
  | .bytes b _ => some (.byt b)
  | .float b _ => some (.flt b)
  | .ref a => some (.ref a)
  | .type n => some (.ty n)
  | _ => none
theorem RelV.abs {x : V} {u : Value} (r : RelV x u) : absV u = some x := by
  cases x with
  | non => cases r; rfl
  | bl _ => cases r; rfl
  | int _ => obtain ⟨t, rfl⟩ := r; rfl
  | str _ => obtain ⟨t, rfl⟩ := r; rfl
  | byt _ => obtain ⟨t, rfl⟩ := r; rfl
  | flt _ => obtain ⟨t, rfl⟩ := r; rfl
  | ref _ => cases r; rfl
  | ty _ => cases r; rfl
theorem RelV.inj {x y : V} {u : Value} (r : RelV x u) (q : RelV y u) : x = y := Option.some.inj (r.abs.symm.trans q.abs)
theorem Vals.inj : ∀ {xs ys : List V} {us : List Value}, Vals xs us → Vals ys us → xs = ys
  | _, _, _, .nil, .nil => rfl
  | _, _, _, .cons r t, .cons r' t' => by rw [r.inj r', Vals.inj t t']
section
variable {X : Cx} {pins : List (Addr × Obj)} {σ : St} {H : Hp} {s : Shared} {a : Addr} {xs ys : List V}
theorem SqL.of {K : PySem.W.Frag} (h : H a = some (.lst xs)) : SqL K H a xs := .inl (.inl h)
theorem SqT.of {K : PySem.W.Frag} (h : H a = some (.tup xs)) : SqT K H a xs := .inl (.inl h)
theorem Inv.list (I : Inv X pins σ H s) (h : SqL X.K H a xs) : ∃ its : List Value, Vals xs its ∧ PlainL s.heap a its.toArray ∧ xs.length ≤ sizeLine := by
  rcases h with h | ⟨o, its, n, hk, hc, hd, hs, hz, r⟩
  · obtain ⟨z, its, n, r, e⟩ := h.ok I.hok
    exact ⟨its, r, ⟨_, n, e, rfl, rfl, rfl⟩, z⟩
  · refine ⟨its.toList, r, ⟨o, n, I.kIn a o hk, hc, hd, by simpa using hs⟩, ?_⟩
    have e := r.length
    simp only [Array.length_toList] at e
    omega
theorem Inv.tuple (I : Inv X pins σ H s) (h : SqT X.K H a xs) : ∃ its : List Value, Vals xs its ∧ IsTup s.heap a its.toArray ∧ xs.length ≤ sizeLine := by
  rcases h with h | ⟨o, its, n, hk, hc, hs, hz, r⟩
  · obtain ⟨z, its, r, p⟩ := h.ok I.hok
    exact ⟨its, r, p.tup, z⟩
  · refine ⟨its.toList, r, ⟨o, I.kIn a o hk, hc, n, by simpa using hs⟩, ?_⟩
    have e := r.length
    simp only [Array.length_toList] at e
    omega
theorem Inv.tuple_inj (I : Inv X pins σ H s) (h : SqT X.K H a xs) (h' : SqT X.K H a ys) : xs = ys := by
  obtain ⟨its, r, ⟨o, e, _, n, d⟩, _⟩ := I.tuple h
  obtain ⟨its', r', ⟨o', e', _, n', d'⟩, _⟩ := I.tuple h'
  rw [e] at e'; cases e'
  rw [d] at d'
  injection d' with d1 _
  have : its = its' := by simpa using congrArg Array.toList d1
  subst this
  exact r.inj r'
end
abbrev Cx.wish (X : Cx) (E : Value → Shared → Prop) : Cx := { X with xe := E }
abbrev Cx.nox (X : Cx) : Cx := X.wish fun _ _ => False
theorem Cx.Ok.wish {X : Cx} (ok : X.Ok) (E : Value → Shared → Prop) : (X.wish E).Ok :=
  ⟨ok.mod, ok.kind, ok.glob, ok.blt, ok.above, ok.inj, ok.has, ok.cab, ok.hd, ok.frames, ok.stk, ok.exf, ok.bs, ok.bsz, ok.noex, ok.exfs, ok.funs, ok.frf⟩
theorem Cx.Ok.unwish {X : Cx} {E : Value → Shared → Prop} (ok : (X.wish E).Ok) : X.Ok :=
  ⟨ok.mod, ok.kind, ok.glob, ok.blt, ok.above, ok.inj, ok.has, ok.cab, ok.hd, ok.frames, ok.stk, ok.exf, ok.bs, ok.bsz, ok.noex, ok.exfs, ok.funs, ok.frf⟩
section
variable {X : Cx} {pins : List (Addr × Obj)} {σ : St} {H : Hp} {s : Shared} {E : Value → Shared → Prop}
theorem Inv.wish (I : Inv X pins σ H s) (E : Value → Shared → Prop) : Inv (X.wish E) pins σ H s := ⟨I.ok.wish E, I.os, I.bare, I.base, I.loc, I.cell, I.free, I.freeC, I.pin, I.hok, I.len⟩
theorem Inv.unwish (I : Inv (X.wish E) pins σ H s) : Inv X pins σ H s := ⟨I.ok.unwish, I.os, I.bare, I.base, I.loc, I.cell, I.free, I.freeC, I.pin, I.hok, I.len⟩
theorem SP.unwish {D : Ends} {f : Flow} {s' : Shared} (h : SP (X.wish E) pins D f s') : SP X pins D f s' := by
  cases f with
  | next => obtain ⟨σ', H', I, q⟩ := h; exact ⟨σ', H', I.unwish, q⟩
  | brk => obtain ⟨σ', H', I, q⟩ := h; exact ⟨σ', H', I.unwish, q⟩
  | cont => obtain ⟨σ', H', I, q⟩ := h; exact ⟨σ', H', I.unwish, q⟩
  | ret u => obtain ⟨v, σ', H', I, r, q⟩ := h; exact ⟨v, σ', H', I.unwish, r, q⟩
theorem PSs.nox {st : List Stmt} {t : TS} (h : PSs X.nox st t) : PSs X st t := fun pins s σ H D I hw =>
  wpAny_mono (h pins s σ H D (I.wish _) hw) (fun _ _ q => q.unwish) fun _ _ z => False.elim z
end
section
variable {X : Cx} {st : Stmt} {rest : List Stmt} {t u : TS} {e : Expr} {te : TE} {pos : Pos}
def tNext : TS := fun D σ H => D.nx σ H
def tSeq (t u : TS) : TS := fun D σ H => t { D with nx := u D } σ H
theorem pss_nil : PSs X [] tNext := fun _ _ σ H _ I h => wpAny_execs_nil ⟨σ, H, I, h⟩
theorem pss_cons (h1 : PS X st t) (h2 : PSs X rest u) : PSs X (st :: rest) (tSeq t u) := by
  intro pins s σ H D I h
  refine wpAny_execs_cons (thn (h1 pins s σ H { D with nx := u D } I h) fun f s1 q => ?_)
  cases f with
  | next =>
    obtain ⟨σ', H', I', q⟩ := q
    exact h2 pins s1 σ' H' D I' q
  | ret v => exact q
  | brk => exact q
  | cont => exact q
theorem pss_one (h1 : PS X st t) : PSs X [st] t := by
  intro pins s σ H D I h
  refine wpAny_execs_cons (thn (h1 pins s σ H D I h) fun f s1 q => ?_)
  cases f with
  | next => exact wpAny_execs_nil q
  | ret v => exact q
  | brk => exact q
  | cont => exact q
theorem Inv.quiet {pins : List (Addr × Obj)} {σ : St} {H : Hp} {s : Shared} (I : Inv X pins σ H s) : interactive X.env = false := by simp [interactive, I.ok.kind]
def tDrop (te : TE) : TS := fun D σ H => te σ H fun _ H1 => D.nx σ H1
theorem ps_expr (he : PE X e te) (hs : swapsWith e none pos.line X.env = pure false := by rfl) : PS X (.Expr e pos) (tDrop te) := by
  intro pins s σ H D I h
  exact wpAny_Expr_any (thn (he pins s σ H _ I h) fun v s1 ⟨x, H1, I1, r1, q1⟩ => ⟨σ, H1, I1, q1⟩) I.quiet hs
def tRet (te : TE) : TS := fun D σ H => te σ H D.rt
theorem ps_ret (he : PE X e te) : PS X (.Return (some e) pos) (tRet te) := by
  intro pins s σ H D I h
  exact wpAny_Return_some (thn (he pins s σ H _ I h) fun v s1 ⟨x, H1, I1, r1, q1⟩ => ⟨x, σ, H1, I1, r1, q1⟩)
def tIfS (c : TT) (t u : TS) : TS := fun D σ H => c σ H fun b H1 => if b = true then t D σ H1 else u D σ H1
theorem ps_if {c : Expr} {a b : List Stmt} {tc : TT} (hc : PT X c tc) (ha : PSs X a t) (hb : PSs X b u) : PS X (.If c a b pos) (tIfS tc t u) := by
  intro pins s σ H D I h
  refine wpAny_If (thn (hc pins s σ H _ I h) fun d s1 ⟨H1, I1, q1⟩ => ?_)
  cases d with
  | true => exact ha pins s1 σ H1 D I1 q1
  | false => exact hb pins s1 σ H1 D I1 q1
end
abbrev TG := V → St → Hp → (St → Hp → Prop) → Prop
abbrev TGs := List V → St → Hp → (St → Hp → Prop) → Prop
def PG (X : Cx) (target : Expr) (t : TG) : Prop :=
  ∀ (pins : List (Addr × Obj)) (s : Shared) (σ : St) (H : Hp) (v : V) (u : Value) (Q : St → Hp → Prop), Inv X pins σ H s → RelV v u → t v σ H Q →
    wpAny (model X.prog X.w) X.A (assign target X.env u) (fun _ s' => ∃ σ' H', Inv X pins σ' H' s' ∧ Q σ' H') X.xe s
def PGs (X : Cx) (ts : List Expr) (t : TGs) : Prop :=
  ∀ (pins : List (Addr × Obj)) (s : Shared) (σ : St) (H : Hp) (vs : List V) (us : List Value) (Q : St → Hp → Prop), Inv X pins σ H s → Vals vs us → t vs σ H Q →
    wpAny (model X.prog X.w) X.A (assignInOrder ((assignEach ts X.env).map (·.2)) us) (fun _ s' => ∃ σ' H', Inv X pins σ' H' s' ∧ Q σ' H') X.xe s
abbrev TSet := V → V → V → Hp → (Hp → Prop) → Prop
def PSet (X : Cx) (t : TSet) : Prop :=
  ∀ (pins : List (Addr × Obj)) (s : Shared) (σ : St) (H : Hp) (o i v : V) (ov iv u : Value) (Q : Hp → Prop), Inv X pins σ H s → RelV o ov → RelV i iv → RelV v u → t o i v H Q →
    wpAny (model X.prog X.w) X.A (setItem ov iv u) (fun _ s' => ∃ H', Inv X pins σ H' s' ∧ Q H') X.xe s
abbrev TIp := V → V → Hp → VK → Prop
def PIp (X : Cx) (op : Operator) (t : TIp) : Prop :=
  ∀ (pins : List (Addr × Obj)) (s : Shared) (σ : St) (H : Hp) (x y : V) (v u : Value) (Q : VK), Inv X pins σ H s → RelV x v → RelV y u → t x y H Q →
    wpAny (model X.prog X.w) X.A (inplaceOp op v u) (EP X pins σ Q) X.xe s
section
variable {X : Cx} {pos : Pos}
def gName (i : Nat) : TG := fun v σ H Q => Q (σ.set i (some v)) H
theorem pg_name {i : Nat} {x : Str} (hN : X.N.Nodup) (hi : X.N[i]? = some x) (hx : Loc X.env.scope x) (hf : X.fn x = true ∨ X.env.scope.names.lookup x = some .local := by first | exact .inl rfl | exact .inr rfl | assumption) : PG X (.Name x pos) (gName i) := by
  intro pins s σ H v u Q I r h
  exact wpAny_assign_Name (store_ok I hN hi hx r (fun s' I' => ⟨_, H, I', h⟩) hf)
def gNil : TGs := fun vs σ H Q => vs = [] ∧ Q σ H
def gCons (t : TG) (u : TGs) : TGs := fun vs σ H Q => ∃ v r, vs = v :: r ∧ t v σ H fun σ' H' => u r σ' H' Q
theorem pgs_nil : PGs X [] gNil := by
  intro pins s σ H vs us Q I r h
  obtain ⟨e, h⟩ := h
  subst e
  cases r
  exact assignInOrder_nil ⟨σ, H, I, h⟩
theorem pgs_cons {e : Expr} {es : List Expr} {t : TG} {u : TGs} (h1 : PG X e t) (h2 : PGs X es u)
    (hs : (assignEach (e :: es) X.env).map (·.2) = assign e X.env :: (assignEach es X.env).map (·.2) := by rfl) : PGs X (e :: es) (gCons t u) := by
  intro pins s σ H vs us Q I r h
  obtain ⟨v, vr, e1, h⟩ := h
  subst e1
  cases r with
  | cons r rr =>
    rw [hs]
    refine assignInOrder_cons (thn (h1 pins s σ H _ _ _ I r h) fun _ s1 ⟨σ1, H1, I1, q1⟩ => ?_)
    exact h2 pins s1 σ1 H1 _ _ Q I1 rr q1
def gTup (K : PySem.W.Frag) (n : Nat) (t : TGs) : TG := fun v σ H Q => ∃ a xs, v = .ref a ∧ SqT K H a xs ∧ xs.length = n ∧ t xs σ H Q
theorem pg_tup {es : List Expr} {k : Nat} {t : TGs} {n : Nat} (hc : X.calm = true) (h : PGs X es t)
    (hn : (assignEach es X.env).length = n := by rfl) (hst : (assignEach es X.env).findIdx? (·.1) = none := by rfl) : PG X (.Tuple es k pos) (gTup X.K n t) := by
  intro pins s σ H v u Q I r hw
  obtain ⟨a, xs, e1, hq, hl, hw⟩ := hw
  subst e1
  cases r
  obtain ⟨its, rv, ht, hz⟩ := I.tuple hq
  refine assign_Tuple_tuple (I.ok.hd hc) ht (by simp [hn, ← hl, rv.length]) hst fun h' hx => ?_
  have I1 : Inv X pins σ H { s with heap := h' } := I.kept (t' := s.toks) fun b o e => hx b o (Nat.ne_of_lt (Heap.lt_size e)) e
  exact h pins _ σ H xs _ Q I1 (by simpa using rv) hw
def gSub (to ti : TE) (t : TSet) : TG := fun v σ H Q => to σ H fun o H1 => ti σ H1 fun i H2 => t o i v H2 fun H3 => Q σ H3
theorem pg_sub {o i : Expr} {to ti : TE} {t : TSet} (ho : PE X o to) (hi : PE X i ti) (hs : PSet X t)
    (ha : ∀ v, assign (.Subscript o i pos) X.env v = (do
      let ov ← holding [v] (eval o X.env)
      let iv ← holding [v, ov] (eval i X.env)
      standAt pos
      holding [v, ov, iv] (setItem ov iv v)
      release [v, ov, iv] []) := by intro _; rfl) : PG X (.Subscript o i pos) (gSub to ti t) := by
  intro pins s σ H v u Q I r h
  rw [ha]
  refine wpAny_bind (wpAny_holding (thn (ho pins s σ H _ I h) fun ov s1 ⟨x, H1, I1, r1, q1⟩ => ?_))
  refine wpAny_bind (wpAny_holding (thn (hi pins s1 σ H1 _ I1 q1) fun iv s2 ⟨y, H2, I2, r2, q2⟩ => ?_))
  refine wpAny_bind (wpAny_standAt (wpAny_bind (wpAny_holding (thn (hs pins s2 σ H2 x y v ov iv u _ I2 r1 r2 r q2) fun _ s3 ⟨H3, I3, q3⟩ => ?_))))
  exact wpAny_release ⟨σ, H3, I3, q3⟩
def tAsg (te : TE) (g : TG) : TS := fun D σ H => te σ H fun x H1 => g x σ H1 D.nx
theorem ps_asg {tg e : Expr} {te : TE} {g : TG} (he : PE X e te) (hg : PG X tg g) (hs : swapsWithSole [tg] e pos.line X.env = pure false := by rfl) (hw : swappedStores [tg] e X.env = pure none := by rfl)
    (h1 : (assignEach [tg] X.env).map (·.2) = [assign tg X.env] := by rfl) : PS X (.Assign [tg] e pos) (tAsg te g) := by
  intro pins s σ H D I h
  refine wpAny_Assign_stores (thn (he pins s σ H _ I h) fun v s1 ⟨x, H1, I1, r1, q1⟩ => ?_) hs hw
  rw [h1]
  exact thn (hg pins s1 σ H1 x v _ I1 r1 q1) fun _ s2 q => q
theorem ps_set {i : Nat} {x : Str} {e : Expr} {te : TE} {pos' : Pos} (hN : X.N.Nodup) (hi : X.N[i]? = some x) (hx : Loc X.env.scope x) (he : PE X e te) (hs : swapsWith e (some (.Name x pos')) pos.line X.env = pure false := by rfl) (hf : X.fn x = true ∨ X.env.scope.names.lookup x = some .local := by first | exact .inl rfl | exact .inr rfl | assumption) :
    PS X (.Assign [.Name x pos'] e pos) (tAsg te (gName i)) := by
  intro pins s σ H D I h
  refine wpAny_Assign_Name (thn (he pins s σ H _ I h) fun v s1 ⟨y, H1, I1, r1, q1⟩ => ?_) hs
  exact store_ok I1 hN hi hx r1 (fun s2 I2 => ⟨_, H1, I2, q1⟩) hf
def tPar (i j : Nat) (ta : TA) : TS := fun D σ H => ta σ H fun vs H1 => ∃ v w, vs = [v, w] ∧ D.nx ((σ.set i (some v)).set j (some w)) H1
theorem ps_par {i j : Nat} {x y : Str} {a b : Expr} {ta : TA} {px py pt : Pos} {kt k2 pt2} (hc : X.calm = true) (hN : X.N.Nodup) (hi : X.N[i]? = some x) (hj : X.N[j]? = some y) (hij : i ≠ j)
    (hx : X.env.scope.names.lookup x = some .local) (hy : X.env.scope.names.lookup y = some .local) (ha : PA X [a, b] ta)
    (hw : swappedStores [.Tuple [.Name x px, .Name y py] kt pt] (.Tuple [a, b] k2 pt2) X.env = pure (some [x, y]))
    (hs : swapsWithSole [.Tuple [.Name x px, .Name y py] kt pt] (.Tuple [a, b] k2 pt2) pos.line X.env = pure false := by rfl) :
    PS X (.Assign [.Tuple [.Name x px, .Name y py] kt pt] (.Tuple [a, b] k2 pt2) pos) (tPar i j ta) := by
  intro pins s σ H D I h
  rw [exec_Assign_arm]
  refine wpAny_bind (wpAny_standAt ?_)
  rw [hs]
  refine wpAny_bind (wpAny_pure ?_)
  rw [if_neg (by decide)]
  refine wpAny_bind (Tuple_ (thn (ha _ pins s σ H _ I h) fun us s1 ⟨vs, H1, I1, r1, q1⟩ => ?_))
  obtain ⟨v, w, e1, q1⟩ := q1
  subst e1
  obtain ⟨u1, u2, rfl, rv, rw'⟩ : ∃ u1 u2, us = [u1, u2] ∧ RelV v u1 ∧ RelV w u2 := by
    cases r1 with
    | cons p q =>
      cases q with
      | cons p' q' =>
        cases q'
        exact ⟨_, _, rfl, p, p'⟩
  refine wpAny_newObj_type ?_ (by show 2 ≤ sizeLine; decide)
  have I2 : Inv X pins σ H1 { s1 with heap := s1.heap.push { cls := .type "tuple", data := .seq [u1, u2].toArray } } := I1.kept (t' := s1.toks) fun b o e => Heap.get?_push_of_some _ e
  rw [hw]
  refine wpAny_bind (wpAny_pure ?_)
  show wpAny (model X.prog X.w) X.A (do rule "assign.swapped-stores"; let items ← unpackItems (.ref s1.heap.objs.size) 2 none; assignInOrder [fun v => bindName X.env y v, fun v => bindName X.env x v] items.reverse; pure Flow.next) _ _ _
  refine wpAny_bind (wpAny_rule (wpAny_bind (unpackItems_tuple (items := #[u1, u2]) (I.ok.hd hc) (IsTup.new s1.heap _) fun h' hx' => ?_)))
  have I3 := I2.kept (h' := h') (t' := s1.toks) fun b o e => hx' b o (Nat.ne_of_lt (Heap.lt_size e)) e
  show wpAny _ _ (assignInOrder [fun v => bindName X.env y v, fun v => bindName X.env x v] [u2, u1] >>= fun _ => pure Flow.next) _ _ _
  refine wpAny_bind (assignInOrder_cons (wpAny_bindName (store_ok I3 hN hj (.inl hy) rw' (fun s2 I4 => ?_) (.inr hy))))
  refine assignInOrder_cons (wpAny_bindName (store_ok I4 hN hi (.inl hx) rv (fun s3 I5 => assignInOrder_nil (wpAny_pure ?_)) (.inr hx)))
  rw [List.set_comm _ _ (Ne.symm hij)] at I5
  exact ⟨_, H1, I5, q1⟩
def tAug (i : Nat) (te : TE) (ti : TIp) : TS := fun D σ H => ∃ x, σ[i]? = some (some x) ∧ te σ H fun y H1 => ti x y H1 fun z H2 => D.nx (σ.set i (some z)) H2
theorem ps_aug {i : Nat} {x : Str} {e : Expr} {te : TE} {op : Operator} {ti : TIp} {pos' : Pos} (hN : X.N.Nodup) (hi : X.N[i]? = some x) (hx : Loc X.env.scope x) (he : PE X e te) (ho : PIp X op ti) (hf : X.fn x = true ∨ X.env.scope.names.lookup x = some .local := by first | exact .inl rfl | exact .inr rfl | assumption) :
    PS X (.AugAssign (.Name x pos') op e pos) (tAug i te ti) := by
  intro pins s σ H D I h
  obtain ⟨v, e1, h⟩ := h
  obtain ⟨m, hn, hl⟩ := I.loc
  have vis : Vis X.env.scope x := by rcases hx with k | k; exact .inl k; exact .inr (.inl k)
  obtain ⟨u, r, l⟩ := hl i x v hi e1 vis
  refine wpAny_AugAssign_Name ?_
  have go : wpAny (model X.prog X.w) X.A (eval e X.env) (fun w s₂ => wpAny (model X.prog X.w) X.A (inplaceOp op u w) (fun r s₃ => wpAny (model X.prog X.w) X.A (storeName X.env x r) (fun _ => SP X pins D .next) X.xe s₃) X.xe s₂) X.xe s := by
    refine thn (he pins s σ H _ I h) fun w s1 ⟨y, H1, I1, r1, q1⟩ => ?_
    refine thn (ho pins s1 σ H1 v y u w _ I1 r r1 q1) fun z s2 ⟨zv, H2, I2, r2, q2⟩ => ?_
    exact store_ok I2 hN hi hx r2 (fun s3 I3 => ⟨_, H2, I3, q2⟩) hf
  rcases l with ⟨hk, hm⟩ | ⟨hk, c, hc, hcell⟩
  · exact wpAny_loadName_local I.ok.kind hk hn hm go
  · rcases hk with hk | hk
    · exact wpAny_loadName_cell I.ok.kind hk hc hcell go
    · rcases hx with k | k
      · have : X.env.scope.names.lookup x = some .free := hk
        rw [k] at this; cases this
      · have : X.env.scope.names.lookup x = some .free := hk
        rw [k] at this; cases this
def ipI (f : Int → Int → Int) : TIp := fun x y H Q => ∃ i j, x = .int i ∧ y = .int j ∧ Q (.int (f i j)) H
theorem ip_add : PIp X .Add (ipI fun i j => i + j) := by
  intro pins s σ H x y v u Q I r1 r2 h
  obtain ⟨i, j, e1, e2, q⟩ := h
  subst e1; subst e2
  obtain ⟨t, rfl⟩ := r1
  obtain ⟨t', rfl⟩ := r2
  exact iadd_int ⟨.int _, H, I.tok _, ⟨_, rfl⟩, q⟩
end
section
variable {X : Cx} {pos : Pos}
def tWhile (c : TT) (tb : TS) : TS := fun D σ H => ∃ W : Nat → St → Hp → Prop, (∃ m, W m σ H) ∧ ∀ m σ H, W m σ H →
  c σ H fun b H1 => if b = true then ∃ N : St → Hp → Prop, (∀ σ' H', N σ' H' → ∃ m', m' < m ∧ W m' σ' H') ∧ tb { D with nx := N, ct := N, bk := D.nx } σ H1 else D.nx σ H1
theorem ps_while {c : Expr} {body : List Stmt} {tc : TT} {tb : TS} (hp : PassesOwn (model X.prog X.w) X.A X.env X.xe) (hc : PT X c tc) (hb : PSs X body tb) : PS X (.While c body [] pos) (tWhile tc tb) := by
  intro pins s σ H D I h
  obtain ⟨W, ⟨m0, w0⟩, turn⟩ := h
  refine wpAny_While (codeAny_whileLoop (fun n s' => ∃ σ' H', Inv X pins σ' H' s' ∧ W n σ' H') ?_ m0 ⟨σ, H, I, w0⟩)
  rintro n s1 ⟨σ1, H1, I1, w1⟩
  refine wpAny_passesOwn hp (thn (hc pins s1 σ1 H1 _ I1 (turn n σ1 H1 w1)) fun b s2 ⟨H2, I2, q2⟩ => ?_)
  cases b with
  | true =>
    obtain ⟨N, hN, q2⟩ := q2
    rw [if_pos rfl]
    refine wpAny_passesOwn hp (thn (hb pins s2 σ1 H2 _ I2 q2) fun f s3 q3 => ?_)
    cases f with
    | next =>
      obtain ⟨σ3, H3, I3, n3⟩ := q3
      obtain ⟨m', hm, w3⟩ := hN σ3 H3 n3
      exact ⟨m', hm, σ3, H3, I3, w3⟩
    | cont =>
      obtain ⟨σ3, H3, I3, n3⟩ := q3
      obtain ⟨m', hm, w3⟩ := hN σ3 H3 n3
      exact ⟨m', hm, σ3, H3, I3, w3⟩
    | brk => exact q3
    | ret v => exact q3
  | false =>
    rw [if_neg Bool.false_ne_true]
    exact wpAny_execs_nil ⟨σ1, H2, I2, q2⟩
end
structure It where
  go : Nat → Hp → Prop
  yld : Nat → Hp → V → Hp → Prop
  stop : Nat → Hp → Prop
def FpOk (X : Cx) (pins : List (Addr × Obj)) (H : Hp) (b : Addr) : Prop :=
  H b = none ∧ b ≠ X.env.locals ∧ b ∉ X.fs ∧ (b ∈ X.ex ∨ X.s₀.heap.objs.size ≤ b) ∧ (∀ x c, X.env.cells.lookup x = some c → c ≠ b) ∧ ∀ p ∈ X.pn ++ pins, p.1 ≠ b
theorem Inv.fpOk {X : Cx} {pins : List (Addr × Obj)} {σ : St} {H H' : Hp} {s : Shared} {b : Addr} (I : Inv X pins σ H s) (hb : s.heap.objs.size ≤ b) (hn : H' b = none) : FpOk X pins H' b := by
  refine ⟨hn, Nat.ne_of_gt (Nat.lt_of_lt_of_le I.lt hb), I.nofs hb, .inr (Nat.le_trans I.sz hb), fun x c e z => ?_, fun p hp z => ?_⟩
  · obtain ⟨v, q⟩ := I.cell x c e
    exact absurd (Nat.lt_of_lt_of_le q.lt (by rw [z]; exact hb)) (Nat.lt_irrefl _)
  · exact absurd (Nat.lt_of_lt_of_le (Heap.lt_size (I.pin p hp).1) (by rw [z]; exact hb)) (Nat.lt_irrefl _)
structure Turn (P : Program) (w : World) (K : PySem.W.Frag) (tg : Expr) (J : It) (fp : List Addr) (it : Addr) (tn : Nat → Heap → Prop) : Prop where
  mem : it ∈ fp
  obj : ∀ i h, tn i h → ∀ b ∈ fp, ∃ o, h.get? b = some o ∧ ∀ v, o.data ≠ .cell v
  keep : ∀ i h h', tn i h → (∀ b ∈ fp, ∀ o, h.get? b = some o → h'.get? b = some o) → tn i h'
  item : ∀ (X : Cx), X.prog = P → X.w = w → X.K = K → X.calm = true → ∀ (i : Nat) (pins : List (Addr × Obj)) (s : Shared) (σ : St) (H : Hp) (E : Value → Shared → Prop), Inv X pins σ H s → (∀ b ∈ fp, FpOk X pins H b) → tn i s.heap → J.go i H →
    wpAny (model P w) X.A (pyNext (.ref it)) (fun r s1 => ∃ u, r = some u ∧
      wpAny (model P w) X.A (letOwnedTupleGo tg (.ref it) u) (fun _ s2 => ∃ x H', Inv X pins σ H' s2 ∧ RelV x u ∧ J.yld i H x H' ∧ tn (i + 1) s2.heap ∧ ∀ b ∈ fp, H' b = none) E s1) E s
  done : ∀ (X : Cx), X.prog = P → X.w = w → X.K = K → X.calm = true → ∀ (i : Nat) (pins : List (Addr × Obj)) (s : Shared) (σ : St) (H : Hp) (E : Value → Shared → Prop), Inv X pins σ H s → (∀ b ∈ fp, FpOk X pins H b) → tn i s.heap → J.stop i H →
    wpAny (model P w) X.A (pyNext (.ref it)) (fun r s1 => r = none ∧ Inv X pins σ H s1) E s
  self : ∀ (A : Around) (i : Nat) (s : Shared) (Q : Value → Shared → Prop) (E : Value → Shared → Prop), tn i s.heap → Q (.ref it) s → wpAny (model P w) A (pyIter (.ref it)) Q E s
abbrev TI := St → Hp → (It → Hp → Prop) → Prop
def PIE (X : Cx) (pins : List (Addr × Obj)) (σ : St) (tg : Expr) (R : It → Hp → Prop) (itv : Value) (s2 : Shared) : Prop :=
  ∃ (it : Addr) (fp : List Addr) (tn : Nat → Heap → Prop) (J : It) (H' : Hp), itv = .ref it ∧ Inv X pins σ H' s2 ∧ Turn X.prog X.w X.K tg J fp it tn ∧ tn 0 s2.heap ∧ (∀ b ∈ fp, FpOk X pins H' b) ∧ R J H'
def PI (X : Cx) (tg iter : Expr) (wi : TI) : Prop :=
  ∀ (pins : List (Addr × Obj)) (s : Shared) (σ : St) (H : Hp) (R : It → Hp → Prop), Inv X pins σ H s → wi σ H R →
    wpAny (model X.prog X.w) X.A (eval iter X.env) (fun v s1 => wpAny (model X.prog X.w) X.A (pyIter v) (PIE X pins σ tg R) X.xe s1) X.xe s
theorem go_of {M : Model} {A : Around} {E : Value → Shared → Prop} {s : Shared} {tg : Expr} {it : Addr} {u : Value} {o : Obj} {n : String} {vs : Array Value} {Q : Unit → Shared → Prop} (ho : s.heap.get? it = some o) (hc : o.cls = .type n) (hd : o.data = .fields vs)
    (hn : ["enumerate", "zip", "dict_itemiterator", "dict_reverseitemiterator", "odict_iterator", "itertools.zip_longest", "itertools.pairwise"].contains n = false) (hQ : Q () s) : wpAny M A (letOwnedTupleGo tg (.ref it) u) Q E s := by
  unfold letOwnedTupleGo
  cases tg <;> first
    | exact wpAny_pure hQ
    | (cases u <;> first
        | exact wpAny_pure hQ
        | (refine wpAny_bind (wpAny_load ho ?_)
           rw [hc, hd]
           show wpAny M A (if (["enumerate", "zip", "dict_itemiterator", "dict_reverseitemiterator", "odict_iterator", "itertools.zip_longest", "itertools.pairwise"].contains n && vs[0]? == some (rawInt _)) = true then _ else _) Q E s
           rw [if_neg (by intro h; rw [hn, Bool.false_and] at h; cases h)]
           exact wpAny_pure hQ))

def Itt (K : PySem.W.Frag) (a : Addr) : It :=
  ⟨fun i H => ∃ xs x, SqT K H a xs ∧ xs[i]? = some x, fun i H x H' => H' = H ∧ ∀ xs, SqT K H a xs → xs[i]? = some x, fun i H => ∃ xs, SqT K H a xs ∧ xs.length ≤ i⟩
def Itr (lo : Int) (n : Nat) : It := ⟨fun i _ => i < n, fun i H x H' => H' = H ∧ x = .int (lo + i), fun i _ => n ≤ i⟩
theorem turn_tuple {P : Program} {w : World} {K : PySem.W.Frag} {tg : Expr} (a it : Addr) : Turn P w K tg (Itt K a) [it] it (fun i h => h.IsTupleIter it a i) where
  mem := by simp
  obj := fun i h st b hb => by
    have e : b = it := by simpa using hb
    subst e
    obtain ⟨o, e, c, d⟩ := st
    exact ⟨o, e, fun v z => by rw [d] at z; cases z⟩
  keep := fun i h h' st k => st.at fun o e => k it (by simp) o e
  item := by
    intro X hP hw hK hc i pins s σ H E I hf st hg
    subst hP hw hK
    obtain ⟨xs, x, hq, hx⟩ := hg
    obtain ⟨its, rv, p, hz⟩ := I.tuple hq
    obtain ⟨u, hu, ru⟩ := rv.get hx
    obtain ⟨f0, f1, f2, f3, f4, f5⟩ := hf it (by simp)
    refine wpAny_pyNext_tuple_item st (show s.heap.IsTuple a its.toArray from p) (x := u) (by simpa using hu) fun h' st' sb => ?_
    have I1 : Inv X pins σ H { s with heap := h' } := I.turned (t' := s.toks) (fun b o hb e => (sb.2 b hb).trans e) f0 f1 f3 f4 f5
    obtain ⟨o, e, c, d⟩ := id st'
    exact ⟨u, rfl, go_of (s := { s with heap := h' }) e c d (by decide) ⟨x, H, I1, ru, ⟨rfl, fun ys hy => by rw [I.tuple_inj hy hq]; exact hx⟩, st', fun b hb => (hf b hb).1⟩⟩
  done := by
    intro X hP hw hK hc i pins s σ H E I hf st hg
    subst hP hw hK
    obtain ⟨xs, hq, hx⟩ := hg
    obtain ⟨its, rv, p, hz⟩ := I.tuple hq
    obtain ⟨f0, f1, f2, f3, f4, f5⟩ := hf it (by simp)
    have hl := rv.length
    exact wpAny_pyNext_tuple_end (I.ok.hd hc) st (show s.heap.IsTuple a its.toArray from p) (by simp; omega) fun h' eb => ⟨rfl, I.turned (t' := s.toks) (fun b o hb e => eb b o hb e) f0 f1 f3 f4 f5⟩
  self := fun _ _ _ _ _ st h => wpAny_pyIter_tupleiter st h
theorem turn_range {P : Program} {w : World} {K : PySem.W.Frag} {tg : Expr} (it : Addr) (lo : Int) (n : Nat) : Turn P w K tg (Itr lo n) [it] it (fun i h => IsRangeIter h it (lo + (i : Nat) * 1) ((n : Int) - (i : Nat)) 1) where
  mem := by simp
  obj := fun i h st b hb => by
    have e : b = it := by simpa using hb
    subst e
    exact ⟨_, st, fun v z => by
      have z' : Data.fields _ = Data.cell v := z
      cases z'⟩
  keep := fun i h h' st k => k it (by simp) _ st
  item := by
    intro X hP hw hK hc i pins s σ H E I hf st hg
    subst hP hw hK
    obtain ⟨f0, f1, f2, f3, f4, f5⟩ := hf it (by simp)
    have W := Walks.range (prog := X.prog) (w := X.w) (I.ok.hd hc) it lo 1 n
    refine W.item i s _ _ hg st fun v h' tk hv st' kk => ?_
    obtain ⟨t, rfl⟩ := hv
    have I1 : Inv X pins σ H { s with heap := h', toks := tk } := I.turned (fun b o hb e => kk b o (by simpa using hb) e) f0 f1 f3 f4 f5
    refine ⟨_, rfl, go_of (s := { s with heap := h', toks := tk }) (n := "range_iterator") st' rfl rfl (by decide) ⟨.int (lo + i), H, I1, ⟨t, ?_⟩, ⟨rfl, rfl⟩, st', fun b hb => (hf b hb).1⟩⟩
    rw [Int.mul_one]
  done := by
    intro X hP hw hK hc i pins s σ H E I hf st hg
    subst hP hw hK
    obtain ⟨f0, f1, f2, f3, f4, f5⟩ := hf it (by simp)
    exact wpAny_pyNext_range_end (I.ok.hd hc) st (by have : n ≤ i := hg; omega) fun h' eb => ⟨rfl, I.turned (t' := s.toks) (fun b o hb e => eb b o hb e) f0 f1 f3 f4 f5⟩
  self := fun _ _ _ _ _ st h => wpAny_pyIter_rangeiter st h
end L2

namespace L2
open PySem PySem.Spec PyProof.Rows
section
variable {X : Cx} {tg : Expr}
def iTup (K : PySem.W.Frag) (tl : TE) : TI := fun σ H R => tl σ H fun x H1 => ∃ a, x = .ref a ∧ (∃ xs, SqT K H1 a xs) ∧ R (Itt K a) H1
theorem pi_tup {l : Expr} {tl : TE} (hl : PE X l tl) : PI X tg l (iTup X.K tl) := by
  intro pins s σ H R I h
  refine thn (hl pins s σ H _ I h) fun v s1 ⟨x, H1, I1, r1, q1⟩ => ?_
  obtain ⟨a, e, ⟨xs, hq⟩, q⟩ := q1
  subst e
  cases r1
  obtain ⟨its, rv, p, hz⟩ := I1.tuple hq
  refine wpAny_pyIter_tuple (show s1.heap.IsTuple a its.toArray from p) ?_
  refine ⟨s1.heap.objs.size, [s1.heap.objs.size], _, _, H1, rfl, I1.kept (t' := s1.toks) fun b o e => Heap.get?_push_of_some _ e, turn_tuple a _, ⟨_, Heap.get?_push_size _ rfl, rfl, rfl⟩, fun b hb => ?_, q⟩
  have e : b = s1.heap.objs.size := by simpa using hb
  subst e
  exact I1.fpOk (Nat.le_refl _) (I1.hok.fresh (Nat.le_refl _))
theorem range_it {pins : List (Addr × Obj)} {σ : St} {H : Hp} {s : Shared} {R : It → Hp → Prop} {E : Value → Shared → Prop} {lo hi : Int} {t u v : Tok} {tk : Nat} (I : Inv X pins σ H s) (h1 : -(2 ^ 62) ≤ lo) (h2 : lo < 2 ^ 62) (h3 : -(2 ^ 62) ≤ hi) (h4 : hi < 2 ^ 62)
    (q : R (Itr lo (hi - lo).toNat) H) : wpAny (model X.prog X.w) X.A (pyIter (.ref s.heap.objs.size)) (PIE X pins σ tg R) E { s with heap := s.heap.push { cls := .type "range", data := .fields #[.int lo t, .int hi u, .int 1 v] }, toks := tk } := by
  refine wpAny_pyIter_range (IsRange.new ..) (small_one h1 h2 h3 h4) ?_
  have I1 : Inv X pins σ H { s with heap := s.heap.push { cls := .type "range", data := .fields #[.int lo t, .int hi u, .int 1 v] }, toks := tk } := I.kept fun b o e => Heap.get?_push_of_some _ e
  refine ⟨(s.heap.push { cls := .type "range", data := .fields #[.int lo t, .int hi u, .int 1 v] }).objs.size, [(s.heap.push { cls := .type "range", data := .fields #[.int lo t, .int hi u, .int 1 v] }).objs.size], _, _, H, rfl,
    I1.kept (t' := tk) fun b o e => Heap.get?_push_of_some _ e, turn_range _ lo (hi - lo).toNat, ?_, fun b hb => ?_, q⟩
  · have e1 : lo + ((0 : Nat) : Int) * 1 = lo := by simp
    have e2 : (((hi - lo).toNat : Nat) : Int) - ((0 : Nat) : Int) = Builtin.Range.rangeSize lo hi 1 := by rw [rangeSize_one]; split <;> omega
    show IsRangeIter _ _ (lo + ((0 : Nat) : Int) * 1) ((((hi - lo).toNat : Nat) : Int) - ((0 : Nat) : Int)) 1
    rw [e1, e2]
    exact Heap.get?_push_size _ rfl
  · have e : b = (s.heap.push { cls := .type "range", data := .fields #[.int lo t, .int hi u, .int 1 v] }).objs.size := by simpa using hb
    subst e
    exact I1.fpOk (Nat.le_refl _) (I1.hok.fresh (Nat.le_refl _))
def iRng1 (ta : TA) : TI := fun σ H R => ta σ H fun vs H1 => ∃ j : Int, vs = [.int j] ∧ -(2 ^ 62) ≤ j ∧ j < 2 ^ 62 ∧ R (Itr 0 j.toNat) H1
theorem pi_range1 {a : Expr} {ta : TA} {p pos : Pos} (hg : Gl X "range") (hm : X.mg "range" = none) (ha : PA X [a] ta) (hs : starEach [a] X.env = [(false, eval a X.env)] := by rfl) : PI X tg (.Call (.Name "range" p) [a] [] pos) (iRng1 ta) := by
  intro pins s σ H R I h
  refine Call_ (ld_blt I hg hm boot_range (PyProof.Rows.callWith_type1 (thn (ha pos pins s σ H _ I h) fun us s1 ⟨vs, H1, I1, r1, q1⟩ => ?_) hs rfl))
  obtain ⟨j, e, q1, q2, q⟩ := q1
  subst e
  cases r1 with
  | cons r rr =>
    cases rr
    obtain ⟨t, rfl⟩ := r
    exact call_range_1 (range_it I1 (by omega) (by omega) q1 q2 (by simpa using q))
def tFor (wi : TI) (g : TG) (tb : TS) : TS := fun D σ H => wi σ H fun J H1 => ∃ W : Nat → Nat → St → Hp → Prop, (∃ m, W 0 m σ H1) ∧ ∀ i m σ H, W i m σ H →
  (J.stop i H ∧ D.nx σ H) ∨ (J.go i H ∧ ∃ N : St → Hp → Prop, (∀ σ' H', N σ' H' → ∃ m', m' < m ∧ W (i + 1) m' σ' H') ∧ ∀ x H', J.yld i H x H' → g x σ H' fun σ2 H2 => tb { D with nx := N, ct := N, bk := D.nx } σ2 H2)
def pinsAt (fp : List Addr) (h : Heap) : List (Addr × Obj) := fp.filterMap fun b => (h.get? b).map fun o => (b, o)
theorem mem_pinsAt {fp : List Addr} {h : Heap} {b : Addr} {o : Obj} (hb : b ∈ fp) (e : h.get? b = some o) : (b, o) ∈ pinsAt fp h := List.mem_filterMap.mpr ⟨b, hb, by rw [e]; rfl⟩
theorem of_pinsAt {fp : List Addr} {h : Heap} {p : Addr × Obj} (hp : p ∈ pinsAt fp h) : p.1 ∈ fp ∧ h.get? p.1 = some p.2 := by
  obtain ⟨b, hb, e⟩ := List.mem_filterMap.mp hp
  cases q : h.get? b with
  | none => rw [q] at e; cases e
  | some o =>
    rw [q] at e
    have e' : (b, o) = p := Option.some.inj e
    subst e'
    exact ⟨hb, q⟩
theorem Inv.pinned {pins : List (Addr × Obj)} {σ : St} {H : Hp} {s : Shared} {fp : List Addr} (I : Inv X pins σ H s) (hf : ∀ b ∈ fp, FpOk X pins H b) (ho : ∀ b ∈ fp, ∃ o, s.heap.get? b = some o ∧ ∀ v, o.data ≠ .cell v) : Inv X (pins ++ pinsAt fp s.heap) σ H s :=
  I.pins_of fun p hp => (List.mem_append.mp hp).elim (fun z => I.pin p (List.mem_append_right _ z)) fun z => by
    obtain ⟨hb, e⟩ := of_pinsAt z
    obtain ⟨f0, f1, f2, _⟩ := hf p.1 hb
    obtain ⟨o, e', d⟩ := ho p.1 hb
    rw [e] at e'; cases e'
    exact ⟨e, f0, f1, f2, d⟩
theorem Inv.unpinned {pins pl : List (Addr × Obj)} {σ : St} {H : Hp} {s : Shared} (I : Inv X (pins ++ pl) σ H s) : Inv X pins σ H s := I.pins_of fun p hp => I.pin p (List.mem_append_right _ (List.mem_append_left _ hp))
theorem ps_for {iter : Expr} {body : List Stmt} {wi : TI} {g : TG} {tb : TS} {pos : Pos} (hp : PassesOwn (model X.prog X.w) X.A X.env X.xe) (hc : X.calm = true) (hi : PI X tg iter wi) (hg : PG X tg g) (hb : PSs X body tb)
    (hs : ∀ x, foldedSetIterable iter X.env x = pure x := by intro _; rfl) : PS X (.For tg iter body [] pos) (tFor wi g tb) := by
  intro pins s σ H D I h
  refine wpAny_For (thn (hi pins s σ H _ I h) fun v s1 h1 => thn h1 fun itv s2 h2 => ?_) hs
  obtain ⟨it, fp, tn, J, H2, e, I2, T, st2, f2, W, ⟨m0, w0⟩, turn⟩ := h2
  subst e
  have stat : ∀ {H' : Hp}, (∀ b ∈ fp, H' b = none) → ∀ b ∈ fp, FpOk X pins H' b := fun hn b hb => ⟨hn b hb, (f2 b hb).2⟩
  refine codeAny_forLoop_any (fun n s' => ∃ i σ' H', Inv X pins σ' H' s' ∧ tn i s'.heap ∧ (∀ b ∈ fp, H' b = none) ∧ W i n σ' H') ?_ m0 ⟨0, σ, H2, I2, st2, fun b hb => (f2 b hb).1, w0⟩
  rintro n s3 ⟨i, σ3, H3, I3, st3, fr3, w3⟩
  rcases turn i n σ3 H3 w3 with ⟨stop, qn⟩ | ⟨go, N, hN, step⟩
  · refine wpAny_passesOwn hp (thn (T.done X rfl rfl rfl hc i pins s3 σ3 H3 X.xe I3 (stat fr3) st3 stop) fun r s4 ⟨hr, I4⟩ => ?_)
    subst hr
    exact wpAny_execs_nil ⟨σ3, H3, I4, qn⟩
  · refine wpAny_passesOwn hp (thn (T.item X rfl rfl rfl hc i pins s3 σ3 H3 X.xe I3 (stat fr3) st3 go) fun r s4 ⟨u, hr, h4⟩ => ?_)
    subst hr
    refine wpAny_passesOwn hp (thn h4 fun _ s5 ⟨x, H5, I5, r5, y5, st5, fr5⟩ => ?_)
    have I5' := I5.pinned (stat fr5) (T.obj _ _ st5)
    refine wpAny_passesOwn hp (thn (hg _ s5 σ3 H5 x u _ I5' r5 (step x H5 y5)) fun _ s6 ⟨σ6, H6, I6, q6⟩ => ?_)
    refine wpAny_passesOwn hp (thn (hb _ s6 σ6 H6 _ I6 q6) fun f s7 q7 => ?_)
    have again : ∀ {σ7 : St} {H7 : Hp}, Inv X (pins ++ pinsAt fp s5.heap) σ7 H7 s7 → N σ7 H7 → ∃ m, m < n ∧ ∃ i σ' H', Inv X pins σ' H' s7 ∧ tn i s7.heap ∧ (∀ b ∈ fp, H' b = none) ∧ W i m σ' H' := fun {σ7 H7} I7 n7 => by
      obtain ⟨m', hm, w7⟩ := hN σ7 H7 n7
      refine ⟨m', hm, i + 1, σ7, H7, I7.unpinned, T.keep _ _ _ st5 fun b hb o e => (I7.pin (b, o) (List.mem_append_right _ (List.mem_append_right _ (mem_pinsAt hb e)))).1, fun b hb => ?_, w7⟩
      obtain ⟨o, e, d⟩ := T.obj _ _ st5 b hb
      exact (I7.pin (b, o) (List.mem_append_right _ (List.mem_append_right _ (mem_pinsAt hb e)))).2.1
    cases f with
    | next => obtain ⟨σ7, H7, I7, n7⟩ := q7; exact again I7 n7
    | cont => obtain ⟨σ7, H7, I7, n7⟩ := q7; exact again I7 n7
    | brk => obtain ⟨σ7, H7, I7, q7⟩ := q7; exact ⟨σ7, H7, I7.unpinned, q7⟩
    | ret v => obtain ⟨x7, σ7, H7, I7, r7, q7⟩ := q7; exact ⟨x7, σ7, H7, I7.unpinned, r7, q7⟩
end
theorem for_range {lo : Int} {n : Nat} {g : TG} {tb : TS} {D : Ends} {σ : St} {H : Hp} (Pv : Nat → St → Hp → Prop) (h0 : Pv 0 σ H)
    (hs : ∀ i σ H, i < n → Pv i σ H → g (.int (lo + i)) σ H fun σ2 H2 => tb { D with nx := Pv (i + 1), ct := Pv (i + 1), bk := D.nx } σ2 H2) (hd : ∀ σ H, Pv n σ H → D.nx σ H) :
    ∃ W : Nat → Nat → St → Hp → Prop, (∃ m, W 0 m σ H) ∧ ∀ i m σ H, W i m σ H →
      ((Itr lo n).stop i H ∧ D.nx σ H) ∨ ((Itr lo n).go i H ∧ ∃ N : St → Hp → Prop, (∀ σ' H', N σ' H' → ∃ m', m' < m ∧ W (i + 1) m' σ' H') ∧ ∀ x H', (Itr lo n).yld i H x H' → g x σ H' fun σ2 H2 => tb { D with nx := N, ct := N, bk := D.nx } σ2 H2) := by
  refine ⟨fun i m σ H => m = n - i ∧ i ≤ n ∧ Pv i σ H, ⟨n, by simp, Nat.zero_le _, h0⟩, ?_⟩
  rintro i m σ H ⟨rfl, hi, p⟩
  by_cases hlt : i < n
  · refine .inr ⟨hlt, Pv (i + 1), fun σ' H' p' => ⟨n - (i + 1), by omega, rfl, hlt, p'⟩, fun x H' y => ?_⟩
    obtain ⟨e, y⟩ := y
    subst e y
    exact hs i σ _ hlt p
  · have e : i = n := by omega
    subst e
    exact .inl ⟨Nat.le_refl _, hd σ H p⟩
end L2

namespace L2
open PySem PySem.Spec PyProof.Rows

abbrev R2 := V → V → Hp → VK → Prop
def OpR (X : Cx) (f : Value → Value → Sem Value) (r : R2) : Prop :=
  ∀ (pins : List (Addr × Obj)) (s : Shared) (σ : St) (H : Hp) (x y : V) (v u : Value) (Q : VK), Inv X pins σ H s → RelV x v → RelV y u → r x y H Q →
    wpAny (model X.prog X.w) X.A (f v u) (EP X pins σ Q) X.xe s
def UnR (X : Cx) (f : Value → Sem Value) (r : V → Hp → VK → Prop) : Prop :=
  ∀ (pins : List (Addr × Obj)) (s : Shared) (σ : St) (H : Hp) (x : V) (v : Value) (Q : VK), Inv X pins σ H s → RelV x v → r x H Q →
    wpAny (model X.prog X.w) X.A (f v) (EP X pins σ Q) X.xe s
def CallR (X : Cx) (f : Value) (r : List V → Hp → VK → Prop) : Prop :=
  ∀ (pins : List (Addr × Obj)) (s : Shared) (σ : St) (H : Hp) (xs : List V) (us : List Value) (Q : VK), Inv X pins σ H s → Vals xs us → r xs H Q →
    wpAny (model X.prog X.w) X.A (call f us) (EP X pins σ Q) X.xe s
def TruR (X : Cx) (r : V → Hp → (Bool → Hp → Prop) → Prop) : Prop :=
  ∀ (pins : List (Addr × Obj)) (s : Shared) (σ : St) (H : Hp) (x : V) (v : Value) (Q : Bool → Hp → Prop), Inv X pins σ H s → RelV x v → r x H Q →
    wpAny (model X.prog X.w) X.A (truthy v) (TP X pins σ Q) X.xe s

def tOp (r : R2) (ta tb : TE) : TE := fun σ H Q => ta σ H fun x H1 => tb σ H1 fun y H2 => r x y H2 Q
def tUn (r : V → Hp → VK → Prop) (ta : TE) : TE := fun σ H Q => ta σ H fun x H1 => r x H1 Q
def rI (C : Int → Int → Prop) (g : Int → Int → V) : R2 := fun x y H Q => ∃ i j, x = .int i ∧ y = .int j ∧ C i j ∧ Q (g i j) H
def rI0 (g : Int → Int → V) : R2 := fun x y H Q => ∃ i j, x = .int i ∧ y = .int j ∧ Q (g i j) H
def rU (g : Int → V) : V → Hp → VK → Prop := fun x H Q => ∃ i, x = .int i ∧ Q (g i) H

section
variable {X : Cx} {a b c : Expr} {ta tb tc : TE} {pos : Pos}

theorem binT (ha : PE X a ta) (hb : PE X b tb) {pins : List (Addr × Obj)} {s : Shared} {σ : St} {H : Hp} {R : V → V → Hp → Prop} (I : Inv X pins σ H s)
    (h : ta σ H fun x H1 => tb σ H1 fun y H2 => R x y H2) {Q : Value → Shared → Prop} {f : Value → Value → Sem Value}
    (hf : ∀ v u s2 x y H2, Inv X pins σ H2 s2 → RelV x v → RelV y u → R x y H2 → wpAny (model X.prog X.w) X.A (f v u) Q X.xe s2) :
    wpAny (model X.prog X.w) X.A (eval a X.env) (fun v s₁ => wpAny (model X.prog X.w) X.A (eval b X.env) (fun u s₂ => wpAny (model X.prog X.w) X.A (f v u) Q X.xe s₂) X.xe s₁) X.xe s := by
  refine thn (ha pins s σ H _ I h) fun v s1 ⟨x, H1, I1, r1, q1⟩ => ?_
  refine thn (hb pins s1 σ H1 _ I1 q1) fun u s2 ⟨y, H2, I2, r2, q2⟩ => ?_
  exact hf v u s2 x y H2 I2 r1 r2 q2

theorem pe_op {op : Operator} {r : R2} (ho : OpR X (binaryOp op) r) (ha : PE X a ta) (hb : PE X b tb) : PE X (.BinOp a op b pos) (tOp r ta tb) := by
  intro pins s σ H Q I h
  exact wpAny_BinOp (binT ha hb I h fun v u s2 x y H2 I2 rx ry q => ho pins s2 σ H2 x y v u Q I2 rx ry q)
theorem pe_un {op : UnaryOp} {r : V → Hp → VK → Prop} (ho : UnR X (unaryOp op) r) (ha : PE X a ta) : PE X (.UnaryOp op a pos) (tUn r ta) := by
  intro pins s σ H Q I h
  exact UnaryOp_ (thn (ha pins s σ H _ I h) fun v s1 ⟨x, H1, I1, r1, q1⟩ => ho pins s1 σ H1 x v Q I1 r1 q1)
theorem opI {f : Value → Value → Sem Value} {C : Int → Int → Prop} {g : Int → Int → Int}
    (rule : ∀ (i j : Int) (t u : Tok) (s : Shared) (Q : Value → Shared → Prop) (E : Value → Shared → Prop), C i j → Q (.int (g i j) s.toks) { s with toks := s.toks + 1 } → wpAny (model X.prog X.w) X.A (f (.int i t) (.int j u)) Q E s) :
    OpR X f (rI C fun i j => .int (g i j)) := by
  intro pins s σ H x y v u Q I rx ry h
  obtain ⟨i, j, rfl, rfl, hc, q⟩ := h
  obtain ⟨t, rfl⟩ := rx
  obtain ⟨t', rfl⟩ := ry
  exact rule i j t t' s _ _ hc ⟨.int (g i j), H, I.tok _, ⟨_, rfl⟩, q⟩
theorem opI0 {f : Value → Value → Sem Value} {g : Int → Int → Int}
    (rule : ∀ (i j : Int) (t u : Tok) (s : Shared) (Q : Value → Shared → Prop) (E : Value → Shared → Prop), Q (.int (g i j) s.toks) { s with toks := s.toks + 1 } → wpAny (model X.prog X.w) X.A (f (.int i t) (.int j u)) Q E s) :
    OpR X f (rI0 fun i j => .int (g i j)) := by
  intro pins s σ H x y v u Q I rx ry h
  obtain ⟨i, j, rfl, rfl, q⟩ := h
  obtain ⟨t, rfl⟩ := rx
  obtain ⟨t', rfl⟩ := ry
  exact rule i j t t' s _ _ ⟨.int (g i j), H, I.tok _, ⟨_, rfl⟩, q⟩
theorem opB0 {f : Value → Value → Sem Value} {g : Int → Int → Bool}
    (rule : ∀ (i j : Int) (t u : Tok) (s : Shared) (Q : Value → Shared → Prop) (E : Value → Shared → Prop), Q (.bool (g i j)) s → wpAny (model X.prog X.w) X.A (f (.int i t) (.int j u)) Q E s) :
    OpR X f (rI0 fun i j => .bl (g i j)) := by
  intro pins s σ H x y v u Q I rx ry h
  obtain ⟨i, j, rfl, rfl, q⟩ := h
  obtain ⟨t, rfl⟩ := rx
  obtain ⟨t', rfl⟩ := ry
  exact rule i j t t' s _ _ ⟨.bl (g i j), H, I, rfl, q⟩

def CDiv (i j : Int) : Prop := 0 < j ∧ j < 1073741824
def CPow (i j : Int) : Prop := 0 ≤ j ∧ j ≤ 1000000 ∧ i.natAbs < 2 ^ 64
def CMul (i j : Int) : Prop := (-(2 ^ 64) < i ∧ i < 2 ^ 64) ∨ (-(2 ^ 64) < j ∧ j < 2 ^ 64)
theorem CMul.ok {i j : Int} (h : CMul i j) : IntMulOk i j := by
  rcases h with ⟨h1, h2⟩ | ⟨h1, h2⟩
  · exact .of_left (intBits_le_64 h1 h2)
  · exact .of_right (intBits_le_64 h1 h2)
theorem op_add : OpR X (binaryOp .Add) (rI0 fun i j => .int (i + j)) := opI0 fun _ _ _ _ _ _ _ q => add_int q
theorem op_sub : OpR X (binaryOp .Sub) (rI0 fun i j => .int (i - j)) := opI0 fun _ _ _ _ _ _ _ q => sub_int q
theorem op_mul : OpR X (binaryOp .Mult) (rI CMul fun i j => .int (i * j)) := opI fun _ _ _ _ _ _ _ hc q => mul_int q hc.ok
theorem op_fdiv : OpR X (binaryOp .FloorDiv) (rI CDiv fun i j => .int (i / j)) := opI fun i j _ _ _ _ _ hc q => by
  have h1 : (0 : Int) < j := hc.1
  have h2 : j < 1073741824 := hc.2
  exact floordiv_int (by omega) (by rw [Int.fdiv_eq_ediv_of_nonneg i (by omega)]; exact q) (.inl (PyProof.noPylong_small (by omega)))
theorem op_mod : OpR X (binaryOp .Mod) (rI (fun _ j => 0 < j) fun i j => .int (i % j)) := opI fun i j _ _ _ _ _ hc q => by
  have h1 : (0 : Int) < j := hc
  exact mod_int' (by omega) (by rw [Int.fmod_eq_emod_of_nonneg i (by omega)]; exact q)
theorem op_pow : OpR X (binaryOp .Pow) (rI CPow fun i j => .int (i ^ j.toNat)) := opI fun _ _ _ _ _ _ _ hc q => pow_int_small hc.1 hc.2.1 hc.2.2 q
theorem op_shl : OpR X (binaryOp .LShift) (rI CPow fun i j => .int (i * 2 ^ j.toNat)) := opI fun _ _ _ _ _ _ _ hc q => lshift_int_small hc.1 hc.2.1 hc.2.2 q
theorem unI {f : Value → Sem Value} {g : Int → Int}
    (rule : ∀ (i : Int) (t : Tok) (s : Shared) (Q : Value → Shared → Prop) (E : Value → Shared → Prop), Q (.int (g i) s.toks) { s with toks := s.toks + 1 } → wpAny (model X.prog X.w) X.A (f (.int i t)) Q E s) :
    UnR X f (rU fun i => .int (g i)) := by
  intro pins s σ H x v Q I rx h
  obtain ⟨i, rfl, q⟩ := h
  obtain ⟨t, rfl⟩ := rx
  exact rule i t s _ _ ⟨.int (g i), H, I.tok _, ⟨_, rfl⟩, q⟩
theorem un_neg : UnR X (unaryOp .USub) (rU fun i => .int (-i)) := unI fun _ _ _ _ _ q => neg_int q
end
def scal : V → V → Bool
  | .non, .non => true | .non, .int _ => true | .int _, .non => true | .non, .bl _ => true | .bl _, .non => true | .non, .str _ => true | .str _, .non => true
  | .int _, .int _ => true | .bl _, .bl _ => true | .str _, .str _ => true | .byt _, .byt _ => true
  | .int _, .str _ => true | .str _, .int _ => true | .bl _, .str _ => true | .str _, .bl _ => true
  | _, _ => false
def rEq : R2 := fun x y H Q => scal x y = true ∧ Q (.bl (decide (x = y))) H
def rNe : R2 := fun x y H Q => scal x y = true ∧ Q (.bl (!decide (x = y))) H

theorem dec_int {i j : Int} : decide (V.int i = V.int j) = (i == j) := by
  rw [Bool.eq_iff_iff]
  simp
theorem dec_bl {i j : Bool} : decide (V.bl i = V.bl j) = (i == j) := by
  rw [Bool.eq_iff_iff]
  simp
theorem dec_str {i j : Str} : decide (V.str i = V.str j) = (i == j) := by
  rw [Bool.eq_iff_iff]
  simp
theorem dec_byt {i j : Array UInt8} : decide (V.byt i = V.byt j) = (i.toList == j.toList) := by
  rw [Bool.eq_iff_iff]
  cases i
  cases j
  simp

section
variable {X : Cx} {a b c : Expr} {ta tb tc : TE} {pos : Pos}
theorem fin_bl {pins : List (Addr × Obj)} {σ : St} {H : Hp} {s : Shared} {Q : VK} {k k' : Bool} (I : Inv X pins σ H s) (q : Q (.bl k) H) (e : k = k') : EP X pins σ Q (.bool k') s := by
  subst e
  exact ⟨.bl k, H, I, rfl, q⟩
theorem op_eq : OpR X (compareOp .Eq) rEq := by
  intro pins s σ H x y v u Q I rx ry h
  obtain ⟨hs, q⟩ := h
  cases x with
  | non =>
    cases rx
    cases y with
    | non => cases ry; exact PySem.EqNone.eq_none_none (fin_bl I q (by simp))
    | bl j => cases ry; exact PySem.EqNone.eq_none_bool (fin_bl I q (by simp))
    | int j => obtain ⟨t', rfl⟩ := ry; exact PySem.EqNone.eq_none_int (fin_bl I q (by simp))
    | str j => obtain ⟨t', rfl⟩ := ry; exact PySem.EqNone.eq_none_str (fin_bl I q (by simp))
    | _ => exact absurd (show false = true from hs) Bool.false_ne_true
  | bl i =>
    cases rx
    cases y with
    | non => cases ry; exact PySem.EqNone.eq_bool_none (fin_bl I q (by simp))
    | bl j => cases ry; exact eq_bool (fin_bl I q dec_bl)
    | str j => obtain ⟨t', rfl⟩ := ry; exact PySem.EqMixed.eq_bool_str (fin_bl I q (by simp))
    | _ => exact absurd (show false = true from hs) Bool.false_ne_true
  | int i =>
    obtain ⟨t, rfl⟩ := rx
    cases y with
    | non => cases ry; exact PySem.EqNone.eq_int_none (fin_bl I q (by simp))
    | int j => obtain ⟨t', rfl⟩ := ry; exact eq_int (fin_bl I q dec_int)
    | str j => obtain ⟨t', rfl⟩ := ry; exact PySem.EqMixed.eq_int_str (fin_bl I q (by simp))
    | _ => exact absurd (show false = true from hs) Bool.false_ne_true
  | str i =>
    obtain ⟨t, rfl⟩ := rx
    cases y with
    | non => cases ry; exact PySem.EqNone.eq_str_none (fin_bl I q (by simp))
    | bl j => cases ry; exact PySem.EqMixed.eq_str_bool (fin_bl I q (by simp))
    | int j => obtain ⟨t', rfl⟩ := ry; exact PySem.EqMixed.eq_str_int (fin_bl I q (by simp))
    | str j => obtain ⟨t', rfl⟩ := ry; exact eq_str (fin_bl I q dec_str)
    | _ => exact absurd (show false = true from hs) Bool.false_ne_true
  | byt i =>
    obtain ⟨t, rfl⟩ := rx
    cases y with
    | byt j => obtain ⟨t', rfl⟩ := ry; exact PySem.W.eq_bytes (fin_bl I q dec_byt)
    | _ => exact absurd (show false = true from hs) Bool.false_ne_true
  | _ => cases y <;> exact absurd (show false = true from hs) Bool.false_ne_true
theorem op_ne : OpR X (compareOp .NotEq) rNe := by
  intro pins s σ H x y v u Q I rx ry h
  obtain ⟨hs, q⟩ := h
  cases x with
  | non =>
    cases rx
    cases y with
    | non => cases ry; exact PySem.EqNone.ne_none_none (fin_bl I q (by simp))
    | bl j => cases ry; exact PySem.EqNone.ne_none_bool (fin_bl I q (by simp))
    | int j => obtain ⟨t', rfl⟩ := ry; exact PySem.EqNone.ne_none_int (fin_bl I q (by simp))
    | str j => obtain ⟨t', rfl⟩ := ry; exact PySem.EqNone.ne_none_str (fin_bl I q (by simp))
    | _ => exact absurd (show false = true from hs) Bool.false_ne_true
  | bl i =>
    cases rx
    cases y with
    | non => cases ry; exact PySem.EqNone.ne_bool_none (fin_bl I q (by simp))
    | bl j => cases ry; exact ne_bool (fin_bl I q (congrArg not dec_bl))
    | str j => obtain ⟨t', rfl⟩ := ry; exact PySem.EqMixed.ne_bool_str (fin_bl I q (by simp))
    | _ => exact absurd (show false = true from hs) Bool.false_ne_true
  | int i =>
    obtain ⟨t, rfl⟩ := rx
    cases y with
    | non => cases ry; exact PySem.EqNone.ne_int_none (fin_bl I q (by simp))
    | int j => obtain ⟨t', rfl⟩ := ry; exact ne_int (fin_bl I q (congrArg not dec_int))
    | str j => obtain ⟨t', rfl⟩ := ry; exact PySem.EqMixed.ne_int_str (fin_bl I q (by simp))
    | _ => exact absurd (show false = true from hs) Bool.false_ne_true
  | str i =>
    obtain ⟨t, rfl⟩ := rx
    cases y with
    | non => cases ry; exact PySem.EqNone.ne_str_none (fin_bl I q (by simp))
    | bl j => cases ry; exact PySem.EqMixed.ne_str_bool (fin_bl I q (by simp))
    | int j => obtain ⟨t', rfl⟩ := ry; exact PySem.EqMixed.ne_str_int (fin_bl I q (by simp))
    | str j => obtain ⟨t', rfl⟩ := ry; exact ne_str (fin_bl I q (congrArg not dec_str))
    | _ => exact absurd (show false = true from hs) Bool.false_ne_true
  | byt i =>
    obtain ⟨t, rfl⟩ := rx
    cases y with
    | byt j => obtain ⟨t', rfl⟩ := ry; exact PySem.W.ne_bytes (fin_bl I q (congrArg not dec_byt))
    | _ => exact absurd (show false = true from hs) Bool.false_ne_true
  | _ => cases y <;> exact absurd (show false = true from hs) Bool.false_ne_true

theorem op_lt : OpR X (compareOp .Lt) (rI0 fun i j => .bl (decide (i < j))) := opB0 fun _ _ _ _ _ _ _ q => lt_int q
theorem op_le : OpR X (compareOp .LtE) (rI0 fun i j => .bl (decide (i ≤ j))) := opB0 fun _ _ _ _ _ _ _ q => le_int q
theorem op_gt : OpR X (compareOp .Gt) (rI0 fun i j => .bl (decide (j < i))) := opB0 fun _ _ _ _ _ _ _ q => gt_int q
theorem op_ge : OpR X (compareOp .GtE) (rI0 fun i j => .bl (decide (j ≤ i))) := opB0 fun _ _ _ _ _ _ _ q => ge_int q
theorem nomark (b : Expr) {op : CmpOp} (h : op ≠ .In := by decide) (h2 : op ≠ .NotIn := by decide) : behindInMarks op b = false := by
  have e1 : (op == CmpOp.In) = false := by cases op <;> first | rfl | exact absurd rfl h
  have e2 : (op == CmpOp.NotIn) = false := by cases op <;> first | rfl | exact absurd rfl h2
  cases b <;> simp [behindInMarks, e1, e2]
theorem pe_cmpR {op : CmpOp} {r : R2} (ho : OpR X (compareOp op) r) (ha : PE X a ta) (hb : PE X b tb) (hm : behindInMarks op b = false) : PE X (.Compare a [op] [b] pos) (tOp r ta tb) := by
  intro pins s σ H Q I h
  exact wpAny_Compare1 (binT ha hb I h fun v u s2 x y H2 I2 rx ry q => ho pins s2 σ H2 x y v u Q I2 rx ry q) hm
def tTest (t : TE) : TT := fun σ H Q => t σ H fun x H' => ∃ k, x = .bl k ∧ Q k H'
theorem pt_cmpR {op : CmpOp} {r : R2} (ho : OpR X (compareOp op) r) (ha : PE X a ta) (hb : PE X b tb) (hm : behindInMarks op b = false) : PT X (.Compare a [op] [b] pos) (tTest (tOp r ta tb)) := by
  intro pins s σ H Q I h
  refine wpAny_isTrue_Compare1 (thn (ha pins s σ H _ I h) fun v s1 ⟨x, H1, I1, r1, q1⟩ => thn (hb pins s1 σ H1 _ I1 q1) fun u s2 ⟨y, H2, I2, r2, q2⟩ =>
    thn (ho pins s2 σ H2 x y v u _ I2 r1 r2 q2) fun c s3 ⟨z, H3, I3, r3, k, e, q3⟩ => ?_) hm
  subst e
  cases r3
  exact wpAny_truthy_bool ⟨H3, I3, q3⟩
def tChain (r r' : R2) (ta tb tc : TE) : TE := fun σ H Q => ta σ H fun x H1 => tb σ H1 fun y H2 => r x y H2 fun z H3 => ∃ k, z = .bl k ∧
  (if k = true then tc σ H3 fun w' H4 => r' y w' H4 Q else Q (.bl false) H3)
theorem pe_chain {op op' : CmpOp} {r r' : R2} (ho : OpR X (compareOp op) r) (ho' : OpR X (compareOp op') r') (ha : PE X a ta) (hb : PE X b tb) (hc : PE X c tc)
    (hm : lastMarks [op, op'] [b, c] = false := by with_unfolding_all rfl) : PE X (.Compare a [op, op'] [b, c] pos) (tChain r r' ta tb tc) := by
  intro pins s σ H Q I h
  refine Compare_chain (thn (ha pins s σ H _ I h) fun v s1 ⟨x, H1, I1, r1, q1⟩ => chain_link (thn (hb pins s1 σ H1 _ I1 q1) fun u s2 ⟨y, H2, I2, r2, q2⟩ =>
    thn (ho pins s2 σ H2 x y v u _ I2 r1 r2 q2) fun d s3 ⟨z, H3, I3, r3, k, e, q3⟩ => ?_)) hm
  subst e
  cases r3
  refine wpAny_truthy_bool ?_
  cases k with
  | false => exact ite_ff ⟨.bl false, H3, I3, rfl, q3⟩
  | true => exact ite_tt (chain_last (thn (hc pins s3 σ H3 _ I3 q3) fun w' s4 ⟨z', H4, I4, r4, q4⟩ => ho' pins s4 σ H4 y z' u w' Q I4 r2 r4 q4))
def TruV (K : PySem.W.Frag) (x : V) (H : Hp) (k : Bool) : Prop :=
  match x with
  | .non => k = false
  | .bl b => k = b
  | .int i => k = (i != 0)
  | .str y => y.length ≤ sizeLine ∧ k = ((y.length : Int) != 0)
  | .byt y => y.size ≤ sizeLine ∧ k = ((y.size : Int) != 0)
  | .ref p => (∃ xs, SqL K H p xs ∧ k = !xs.isEmpty) ∨ (∃ xs, SqT K H p xs ∧ k = !xs.isEmpty) ∨ ∃ kvs, H p = some (.dK kvs) ∧ k = !kvs.isEmpty
  | _ => False
theorem isEmpty_kv {κ : Type} {kvs : List (κ × V)} {vs : List (κ × Value)} (r : KV kvs vs) : (!vs.isEmpty) = !kvs.isEmpty := by
  cases r <;> rfl
theorem isEmpty_of {xs : List V} {its : List Value} (r : Vals xs its) : (!its.toArray.isEmpty) = !xs.isEmpty := by
  cases r <;> simp
theorem line63 : (sizeLine : Nat) < 2 ^ 63 := by rw [sizeLine_eq]; decide
theorem tru_ok : TruR X (fun x H Q => ∃ k, TruV X.K x H k ∧ Q k H) := by
  intro pins s σ H x v Q I rx h
  obtain ⟨k, e, q⟩ := h
  have hl := line63
  have hs : sizeLine = 16777216 := sizeLine_eq
  cases x with
  | non =>
    cases rx
    have e' : k = false := e
    subst e'
    exact truthy_none ⟨H, I, q⟩
  | bl b =>
    cases rx
    have e' : k = b := e
    subst e'
    exact wpAny_truthy_bool ⟨H, I, q⟩
  | int i =>
    obtain ⟨t, rfl⟩ := rx
    have e' : k = (i != 0) := e
    subst e'
    exact PySem.P.truthy_int ⟨H, I, q⟩
  | str y =>
    obtain ⟨t, rfl⟩ := rx
    obtain ⟨hy, e'⟩ : y.length ≤ sizeLine ∧ k = ((y.length : Int) != 0) := e
    subst e'
    exact PySem.P.truthy_str (by omega) ⟨H, I.tok _, q⟩
  | byt y =>
    obtain ⟨t, rfl⟩ := rx
    obtain ⟨hy, e'⟩ : y.size ≤ sizeLine ∧ k = ((y.size : Int) != 0) := e
    subst e'
    exact PySem.W.truthy_bytes (by omega) ⟨H, I.tok _, q⟩
  | ref p =>
    cases rx
    have e' : (∃ xs, SqL X.K H p xs ∧ k = !xs.isEmpty) ∨ (∃ xs, SqT X.K H p xs ∧ k = !xs.isEmpty) ∨ ∃ kvs, H p = some (.dK kvs) ∧ k = !kvs.isEmpty := e
    rcases e' with ⟨xs, hx, e'⟩ | ⟨xs, hx, e'⟩ | ⟨kvs, hx, e'⟩
    · subst e'
      obtain ⟨its, r, pl, hz⟩ := I.list hx
      have hlen := r.length
      exact wpAny_truthy_list pl.isList (by simp only [List.size_toArray]; omega) ⟨H, I.tok _, by rw [isEmpty_of r]; exact q⟩
    · subst e'
      obtain ⟨its, r, pl, hz⟩ := I.tuple hx
      have hlen := r.length
      exact truthy_tuple pl (by simp only [List.size_toArray]; omega) ⟨H, I.tok _, by rw [isEmpty_of r]; exact q⟩
    · subst e'
      obtain ⟨hz, hS, vs, r, m⟩ : kvs.length ≤ sizeLine ∧ (p == sysModules) = false ∧ ∃ vs, KV kvs vs ∧ s.heap.DictOf (mixKind X.prog X.w) p vs := I.hok p _ hx
      have hlen : kvs.length = vs.length := Paired.length r
      exact wpAny_truthy_dict hS m (by omega) ⟨H, I.tok _, by rw [isEmpty_kv r]; exact q⟩
  | _ => exact (show False from e).elim
theorem pt_truth (ha : PE X a ta) (he : ∀ whole, isTrue a X.env whole = (do let v ← whole; standAt a.pos; holding [v] (truthy v))) :
    PT X a (fun σ H Q => ta σ H fun x H' => ∃ k, TruV X.K x H' k ∧ Q k H') := by
  intro pins s σ H Q I h
  exact isTrue_plain (thn (ha pins s σ H _ I h) fun v s1 ⟨x, H1, I1, r1, q1⟩ => tru_ok pins s1 σ H1 x v Q I1 r1 q1) (he _)
theorem op_add_str : OpR X (binaryOp .Add) (fun x y H Q => ∃ i j, x = .str i ∧ y = .str j ∧ i.length + j.length ≤ sizeLine ∧ Q (.str (i ++ j)) H) := by
  intro pins s σ H x y v u Q I rx ry h
  obtain ⟨i, j, rfl, rfl, hz, q⟩ := h
  obtain ⟨t, rfl⟩ := rx
  obtain ⟨t', rfl⟩ := ry
  exact add_str (fun t' tk => ⟨.str (i ++ j), H, I.tok _, ⟨_, rfl⟩, q⟩) hz
theorem vals1 {x : V} {us : List Value} (r : Vals [x] us) : ∃ u, us = [u] ∧ RelV x u := by
  cases r with
  | cons r1 r2 => cases r2; exact ⟨_, rfl, r1⟩
theorem vals2 {x y : V} {us : List Value} (r : Vals [x, y] us) : ∃ u w', us = [u, w'] ∧ RelV x u ∧ RelV y w' := by
  cases r with
  | cons r1 r2 =>
    cases r2 with
    | cons r3 r4 => cases r4; exact ⟨_, _, rfl, r1, r3⟩
theorem call_abs : CallR X (.builtin "abs") (fun xs H Q => ∃ i, xs = [.int i] ∧ Q (.int (if i < 0 then -i else i)) H) := by
  intro pins s σ H xs us Q I r h
  obtain ⟨i, rfl, q⟩ := h
  obtain ⟨u, rfl, t, rfl⟩ := vals1 r
  exact call_abs_int fun u tk => ⟨.int (if i < 0 then -i else i), H, I.tok _, ⟨_, rfl⟩, q⟩
theorem call_max2 (hc : X.calm = true) : CallR X (.builtin "max") (fun xs H Q => ∃ i j, xs = [.int i, .int j] ∧ Q (.int (if j > i then j else i)) H) := by
  intro pins s σ H xs us Q I r h
  obtain ⟨i, j, rfl, q⟩ := h
  obtain ⟨u, w', rfl, ⟨t, rfl⟩, ⟨t', rfl⟩⟩ := vals2 r
  refine max_two_ints (I.ok.hd hc) fun h' tk k => ⟨_, H, I.kept k, ?_, q⟩
  by_cases hj : j > i
  · rw [if_pos hj, if_pos hj]; exact ⟨_, rfl⟩
  · rw [if_neg hj, if_neg hj]; exact ⟨_, rfl⟩
theorem call_min2 (hc : X.calm = true) : CallR X (.builtin "min") (fun xs H Q => ∃ i j, xs = [.int i, .int j] ∧ Q (.int (if j < i then j else i)) H) := by
  intro pins s σ H xs us Q I r h
  obtain ⟨i, j, rfl, q⟩ := h
  obtain ⟨u, w', rfl, ⟨t, rfl⟩, ⟨t', rfl⟩⟩ := vals2 r
  refine min_two_ints (I.ok.hd hc) fun h' tk k => ⟨_, H, I.kept k, ?_, q⟩
  by_cases hj : j < i
  · rw [if_pos hj, if_pos hj]; exact ⟨_, rfl⟩
  · rw [if_neg hj, if_neg hj]; exact ⟨_, rfl⟩
theorem call_int1 : CallR X (.type "int") (fun xs H Q => (∃ i, xs = [.int i] ∧ Q (.int i) H) ∨ ∃ k, xs = [.bl k] ∧ Q (.int (if k then 1 else 0)) H) := by
  intro pins s σ H xs us Q I r h
  rcases h with ⟨i, rfl, q⟩ | ⟨k, rfl, q⟩
  · obtain ⟨u, rfl, t, rfl⟩ := vals1 r
    exact call_int_int ⟨.int i, H, I, ⟨_, rfl⟩, q⟩
  · obtain ⟨u, rfl, r1⟩ := vals1 r
    cases r1
    exact call_int_bool ⟨.int (if k then 1 else 0), H, I.tok _, ⟨_, rfl⟩, q⟩
end
end L2

namespace L2
open PySem PySem.Spec PyProof.Rows
structure ObjM (h : Heap) (x dx C : Addr) (mA : Str → Option Value) : Prop where
  obj : h.get? x = some (PySem.W.instObj C dx)
  ns : h.Ns1 dx mA
  ne : dx ≠ x

theorem lookIn_ns {h : Heap} {dx : Addr} {mA : Str → Option Value} (n : h.Ns1 dx mA) : ∃ od, h.get? dx = some od ∧ ∀ name, PySem.W.lookIn name od = some (mA name) := by
  obtain ⟨o, es, ep, ho, hd, hk, _, hm⟩ := n
  refine ⟨o, ho, fun name => ?_⟩
  have e := hm name
  unfold nsFind findBy at e
  rw [← Array.find?_toList] at e
  unfold PySem.W.lookIn
  rw [hd]
  dsimp only
  split
  · rename_i y q
    rw [q] at e
    exact congrArg some e
  · rename_i q
    rw [q] at e
    have a : es.toList.any (·.refKey) = false := by
      rw [List.any_eq_false]
      intro y hy
      obtain ⟨z, t, hkey⟩ := hk y (Array.mem_toList_iff.mp hy)
      simp [DictEntry.refKey, hkey]
    have a' : ¬ es.toList.any (·.refKey) = true := by rw [a]; exact Bool.false_ne_true
    rw [if_neg a']
    exact congrArg some e

theorem ObjM.look {h : Heap} {x dx C : Addr} {mA : Str → Option Value} (I : ObjM h x dx C mA) : ∃ od, PySem.W.InstAt h x (PySem.W.instObj C dx) C (some od) ∧ ∀ name, PySem.W.lookIn name od = some (mA name) :=
  let ⟨od, ho, hl⟩ := lookIn_ns I.ns
  ⟨od, ⟨I.obj, rfl, rfl, ho⟩, hl⟩

section
variable {prog : Program} {w : World} {A : Around} {E : Value → Shared → Prop} {s : Shared} {K : PySem.W.Frag} {x dx C f : Addr} {mA : Str → Option Value} {name : Str} {v : Value}

end
section
variable {P : Program} {w : World} {H H' : Hp} {h h' : Heap} {a C dx : Addr} {fs fs' : List (Str × V)}
theorem ins_get (hok : HOk P w H h) (e : H a = some (.ins C dx fs)) : ∃ mA, ObjM h a dx C mA ∧ (∀ f, RelO (fs.lookup f) (mA f)) ∧ PySem.Within mA (fs.map (·.1)) ∧ fs.length ≤ 1000 ∧ H dx = some (.own a) := by
  obtain ⟨d, z, ne, ob, mA, n, r, q⟩ := (show ObjOk P w H h a (.ins C dx fs) from hok a _ e)
  exact ⟨mA, ⟨ob, n, ne⟩, r, q, z, d⟩
end
structure Cls (K : PySem.W.Frag) (C : Addr) : Prop where
  pg : PySem.W.plainGet K C Str.empty = true
  hd : PySem.W.hasDictIn K C = true
  po : PySem.W.plainOver K C = true
  sa : PySem.W.findIn K (.ref C) "__setattr__" = some (some (.builtin "object.__setattr__"))
theorem Cls.get {K : PySem.W.Frag} {C : Addr} (c : Cls K C) (f : Str) : PySem.W.plainGet K C f = true := c.pg
section
variable {X : Cx} {pins : List (Addr × Obj)} {σ : St} {H : Hp} {s : Shared} {a C dx : Addr} {fs : List (Str × V)} {f : Str} {v : V} {A : Around} {E : Value → Shared → Prop}

end
section
variable {X : Cx} {o e value : Expr} {f : Str} {pos pos' tpos : Pos} {ta tv : TE}
end
section
variable {X : Cx} {pins : List (Addr × Obj)} {σ : St} {H : Hp} {s : Shared} {A : Around} {E : Value → Shared → Prop} {Q : Value → Shared → Prop} {c : Value} {b : Bool}
inductive TyOf (K : PySem.W.Frag) (H : Hp) : V → Value → Prop where
  | non : TyOf K H .non (.type "NoneType")
  | bl (x : Bool) : TyOf K H (.bl x) (.type "bool")
  | int (i : Int) : TyOf K H (.int i) (.type "int")
  | str (x : Str) : TyOf K H (.str x) (.type "str")
  | flt (x : UInt64) : TyOf K H (.flt x) (.type "float")
  | lst {a : Addr} {xs : List V} (e : H a = some (.lst xs)) : TyOf K H (.ref a) (.type "list")
  | frz {a : Addr} {o : Obj} {xs : List V} (e : H a = some (.frz o (.lst xs))) : TyOf K H (.ref a) (.type "list")
  | tup {a : Addr} {xs : List V} (e : H a = some (.tup xs)) : TyOf K H (.ref a) (.type "tuple")
  | dK {a : Addr} {kvs : List (Key × V)} (e : H a = some (.dK kvs)) : TyOf K H (.ref a) (.type "dict")
  | dT {a : Addr} {kvs : List (List Key × V)} (e : H a = some (.dT kvs)) : TyOf K H (.ref a) (.type "dict")
  | ins {a C dx : Addr} {fs : List (Str × V)} (e : H a = some (.ins C dx fs)) (cl : Cls K C) (ha : PySem.W.findIn K (.ref C) "__class__" = some (some (.builtin "object.__class__")))
      (hn : PySem.W.specialIn K (.builtin "object.__class__") "__get__" = some (some (.builtin "getset_descriptor.__get__"))) (htk : PySem.W.takesIn K (.builtin "object.__class__") = some true)
      (hm : PySem.W.mroIn K C (.type "object") = some true) : TyOf K H (.ref a) (.ref C)
theorem isinst_ok {x : V} {u t : Value} (I : Inv X pins σ H s) (rx : RelV x u) (ty : TyOf X.K H x t) (e : PySem.W.kitOne X.K t c = some b) (h : ∀ tk, Q (.bool b) { s with toks := tk }) :
    wpAny (model X.prog X.w) A (call (.builtin "isinstance") [u, c]) Q E s := by
  cases ty with
  | non => cases (show u = Value.none from rx); exact PySem.W.kia_one PySem.W.kitx_none I.kIn True.intro e (fun z => nomatch z) h
  | bl y => cases (show u = Value.bool y from rx); exact PySem.W.kia_one PySem.W.kitx_bool I.kIn True.intro e (fun z => nomatch z) h
  | int i => obtain ⟨t, q⟩ := (show ∃ t, u = Value.int i t from rx); cases q; exact PySem.W.kia_one PySem.W.kitx_int I.kIn True.intro e (fun z => nomatch z) h
  | str y => obtain ⟨t, q⟩ := (show ∃ t, u = Value.str y t from rx); cases q; exact PySem.W.kia_one PySem.W.kitx_str I.kIn True.intro e (fun z => nomatch z) h
  | flt y => obtain ⟨t, q⟩ := (show ∃ t, u = Value.float y t from rx); cases q; exact PySem.W.kia_one PySem.W.kitx_float I.kIn True.intro e (fun z => nomatch z) h
  | @lst a xs ea =>
    cases (show u = Value.ref a from rx)
    obtain ⟨_, _, n, _, h1⟩ := (show ObjOk X.prog X.w H s.heap a (.lst xs) from I.hok a _ ea)
    exact PySem.W.kia_one PySem.W.kitx_list I.kIn ⟨_, h1, rfl⟩ e (fun z => nomatch z) h
  | @frz a ob xs ea =>
    cases (show u = Value.ref a from rx)
    obtain ⟨_, _, _, n, _, h1⟩ := (show ObjOk X.prog X.w H s.heap a (.frz ob (.lst xs)) from I.hok a _ ea)
    exact PySem.W.kia_one PySem.W.kitx_list I.kIn ⟨_, h1, rfl⟩ e (fun z => nomatch z) h
  | @tup a xs ea =>
    cases (show u = Value.ref a from rx)
    obtain ⟨_, _, _, p'⟩ := (show ObjOk X.prog X.w H s.heap a (.tup xs) from I.hok a _ ea)
    have p := p'.tup
    obtain ⟨o, h1, h2, _⟩ := p
    exact PySem.W.kia_one PySem.W.kitx_tuple I.kIn ⟨o, h1, h2⟩ e (fun z => nomatch z) h
  | @dK a kvs ea =>
    cases (show u = Value.ref a from rx)
    obtain ⟨_, _, vs, _, p⟩ := (show ObjOk X.prog X.w H s.heap a (.dK kvs) from I.hok a _ ea)
    obtain ⟨o, es, ep, h1, h2, _⟩ := p
    exact PySem.W.kia_one PySem.W.kitx_dict I.kIn ⟨o, h1, h2.1⟩ e (fun z => nomatch z) h
  | @dT a kvs ea =>
    cases (show u = Value.ref a from rx)
    obtain ⟨_, _, xs, _, o, es, ep, h1, h2, _⟩ := (show ObjOk X.prog X.w H s.heap a (.dT kvs) from I.hok a _ ea)
    exact PySem.W.kia_one PySem.W.kitx_dict I.kIn ⟨o, h1, h2.1⟩ e (fun z => nomatch z) h
  | @ins a C dx fs ea cl ha hn htk hm =>
    cases (show u = Value.ref a from rx)
    obtain ⟨mA, O, _⟩ := ins_get I.hok ea
    obtain ⟨od, J, _⟩ := O.look
    exact PySem.W.kia_one (PySem.W.kitx_own (cl.get _) cl.hd ha hn htk hm) I.kIn J e (fun z => nomatch z) h
end
end L2

namespace L2
open PySem PySem.Spec PyProof.Rows
structure Room (k : Nat) (A : Around) : Prop where
  hd : A.handled = none
  dp : A.depth + 3 * k + 5 < recursionLimit
  un : A.units + 16 * k + 200 < cLine
  gd : A.guards = some []
theorem Room.mono {j k : Nat} {A : Around} (r : Room k A) (h : j ≤ k) : Room j A := ⟨r.hd, by have := r.dp; omega, by have := r.un; omega, r.gd⟩
theorem Room.deeper {k : Nat} {A : Around} (r : Room (k + 1) A) (env : Env) : Room k (A.deeper env) :=
  ⟨r.hd, by have := r.dp; show A.depth + 1 + 3 * k + 5 < _; omega, by have := r.un; show A.units + 3 + 16 * k + 200 < _; omega, r.gd⟩
theorem Room.depth {k : Nat} {A : Around} (r : Room k A) : A.depth < recursionLimit := by have := r.dp; omega
theorem Room.units {k : Nat} {A : Around} (r : Room k A) : A.units + 64 < cLine := by have := r.un; omega
theorem Room.units0 {k : Nat} {A : Around} (r : Room k A) : A.units < cLine := by have := r.un; omega
def tNil : TA := fun _ H Q => Q [] H
def tCons (ta : TE) (tr : TA) : TA := fun σ H Q => ta σ H fun x H1 => tr σ H1 fun xs H2 => Q (x :: xs) H2
section
variable {X : Cx} {e : Expr} {es : List Expr} {te : TE} {t : TA} {pos : Pos}
theorem pa_nil : PA X [] tNil := fun _ _ _ _ H Q I h => Calls.spliced_nil ⟨[], H, I, .nil, h⟩
theorem pa_cons (ha : PE X e te) (hr : PA X es t) (hs : starEach (e :: es) X.env = (false, eval e X.env) :: starEach es X.env := by rfl) : PA X (e :: es) (tCons te t) := by
  intro pos pins s σ H Q I h
  rw [hs]
  show wpAny _ _ (spliced ((false, eval e X.env) :: backTo pos (starEach es X.env))) _ _ s
  refine Calls.spliced_cons (thn (ha pins s σ H _ I h) fun u s1 ⟨x, H1, I1, r1, q1⟩ => ?_)
  exact thn (hr pos pins s1 σ H1 _ I1 q1) fun us s2 ⟨xs, H2, I2, r2, q2⟩ => ⟨x :: xs, H2, I2, .cons r1 r2, q2⟩
def tTup (t : TA) : TE := fun σ H Q => t σ H fun xs H1 => xs.length ≤ sizeLine ∧ ∀ p, H1 p = none → Q (.ref p) (upd H1 p (.tup xs))
def tLst (t : TA) : TE := fun σ H Q => t σ H fun xs H1 => xs.length ≤ sizeLine ∧ ∀ p, H1 p = none → Q (.ref p) (upd H1 p (.lst xs))
theorem pe_tup {x1} (h : PA X es t) : PE X (.Tuple es x1 pos) (tTup t) := by
  intro pins s σ H Q I hq
  refine wpAny_Tuple_spliced (thn (h pos pins s σ H _ I hq) fun us s1 ⟨xs, H1, I1, r, z, q⟩ => ⟨by rw [← r.length]; exact z, ?_⟩)
  have hf : H1 s1.heap.objs.size = none := I1.hok.fresh (Nat.le_refl _)
  refine ⟨.ref s1.heap.objs.size, upd H1 s1.heap.objs.size (.tup xs), I1.laid (t' := s1.toks) (fun b u e => Heap.get?_push_of_some _ e) (Nat.le_refl _) ?_, rfl, q _ hf⟩
  exact ⟨z, us, r, TupX.new _ _⟩
theorem pe_lst (h : PA X es t) : PE X (.List es pos) (tLst t) := by
  intro pins s σ H Q I hq
  refine wpAny_List_spliced (thn (h pos pins s σ H _ I hq) fun us s1 ⟨xs, H1, I1, r, z, q⟩ => ⟨by rw [← r.length]; exact z, ?_⟩)
  have hf : H1 s1.heap.objs.size = none := I1.hok.fresh (Nat.le_refl _)
  refine ⟨.ref s1.heap.objs.size, upd H1 s1.heap.objs.size (.lst xs), I1.laid (t' := s1.toks) (fun b u e => Heap.get?_push_of_some _ e) (Nat.le_refl _) ?_, rfl, q _ hf⟩
  exact ⟨z, us, 0, r, Heap.get?_push_size _ rfl⟩
end
abbrev Sp := List V → Hp → VK → XK → Prop
abbrev CXT := List Env → Hp → Shared → XK → Value → Shared → Prop
structure Env0 (P : Program) (w : World) (K : PySem.W.Frag) (mg : Str → Option Value) (base : Heap) (A : Around) (outer : List Env) (s : Shared) (H : Hp) : Prop where
  frames : A.frames = some outer
  mod : Mod K mg base
  bs : ∀ b o, base.get? b = some o → s.heap.get? b = some o ∧ H b = none
  bsz : base.objs.size ≤ s.heap.objs.size
  funs : s.heap.FunFrames base outer
  frf : ∀ b ∈ frs outer, H b = none
  hok : HOk P w H s.heap
  bare : AllBare s.gens
def CE (outer : List Env) (P : Program) (w : World) (H : Hp) (s : Shared) (Q : VK) (u : Value) (s' : Shared) : Prop :=
  ∃ v H', s'.os = s.os ∧ AllBare s'.gens ∧ Un (frs outer) [] H H' s.heap s'.heap ∧ HOk P w H' s'.heap ∧ RelV v u ∧ Q v H'
def CR (CX : CXT) (outer : List Env) (P : Program) (w : World) (H : Hp) (s : Shared) (Q : VK) (E : XK) (r : Result) (s' : Shared) : Prop :=
  match r with
  | .ok (.ret u) => CE outer P w H s Q u s'
  | .ok _ => False
  | .error e => CX outer H s E e s'
structure FnOk (P : Program) (w : World) (K : PySem.W.Frag) (mg : Str → Option Value) (base : Heap) (CX : CXT) (k : Nat) (f : Addr) (fd : FuncData) (ps : List Str) (sp : Sp) : Prop where
  len : ∀ vs H Q E, sp vs H Q E → vs.length = ps.length
  run : ∀ (A : Around) (outer : List Env) (s : Shared) (H : Hp) (args : Args) (us : List Value) (vs : List V) (Q : VK) (E : XK), Room k A → Env0 P w K mg base A outer s H → BindsTo s fd args (ps.zip us) → Vals vs us → sp vs H Q E →
    codeAny (model P w) A (.call (.ref f) args) (CR CX outer P w H s Q E) s
section
variable {X : Cx} {pins : List (Addr × Obj)} {σ : St} {H : Hp} {s s' : Shared}
theorem Inv.env0 (I : Inv X pins σ H s) : Env0 X.prog X.w X.K X.mg X.base X.A X.stack s H :=
  ⟨I.ok.frames, I.ok.mod, I.bs, Nat.le_trans I.ok.bsz I.sz, I.stack, I.stkFree, I.hok, I.bare⟩
theorem Inv.after {Q : VK} {u : Value} (I : Inv X pins σ H s) (h : CE X.stack X.prog X.w H s Q u s') : EP X pins σ Q u s' := by
  obtain ⟨v, H', os, bare, un, hok, r, q⟩ := h
  obtain ⟨hh, g, d, t, os'⟩ := s'
  obtain rfl : os' = s.os := os
  exact ⟨v, H', I.call (h' := hh) (g' := g) (d' := d) (t' := t) (ch := []) un hok bare (fun b z => absurd z (by simp)), r, q⟩
end
def tCall (sp : Sp) (dvs : List V) (E : XK) (t : TA) : TE := fun σ H Q => t σ H fun vs H1 => sp (vs ++ dvs) H1 Q E
def Binds (K : PySem.W.Frag) (fd : FuncData) (ps : List Str) (ds : List Value) : Prop :=
  ∀ (s : Shared) (us : List Value), K.In s.heap → (us ++ ds).length = ps.length → BindsTo s fd ⟨us, []⟩ (ps.zip (us ++ ds))
theorem Binds.all {K : PySem.W.Frag} {fd : FuncData} {ps : List Str} (h : ∀ us : List Value, us.length = ps.length → bindArgs fd ⟨us, []⟩ = pure (ps.zip us)) : Binds K fd ps [] := fun s us _ hl => by
  rw [List.append_nil] at hl ⊢
  exact .of_eq (h us hl)
def Passes (CX : CXT) (X : Cx) (E : XK) : Prop := ∀ (pins : List (Addr × Obj)) (σ : St) (H : Hp) (s : Shared) (e : Value) (s' : Shared), Inv X pins σ H s → CX X.stack H s E e s' → X.xe e s'

section
variable {X : Cx} {CX : CXT} {k : Nat} {f C : Addr} {fd : FuncData} {ps : List Str} {sp : Sp} {dvs : List V} {ds : List Value} {E : XK} {x m : Str} {p pos apos : Pos} {e o : Expr} {es : List Expr} {ta : TE} {t : TA}
theorem run_fn {pins : List (Addr × Obj)} {σ : St} {H : Hp} {s : Shared} {Q : VK} {us : List Value} {vs : List V} (F : FnOk X.prog X.w X.K X.mg X.base CX k f fd ps sp) (hr : Room k X.A) (hb : Binds X.K fd ps ds) (hd : Vals dvs ds) (hx : Passes CX X E)
    (I : Inv X pins σ H s) (r : Vals vs us) (h : sp (vs ++ dvs) H Q E) : wpAny (model X.prog X.w) X.A (call (.ref f) us) (EP X pins σ Q) X.xe s := by
  have r2 : Vals (vs ++ dvs) (us ++ ds) := r.append hd
  have hl : (us ++ ds).length = ps.length := by rw [← r2.length]; exact F.len _ _ _ _ h
  refine wpAny_call (codeAny_mono (F.run X.A X.stack s H ⟨us, []⟩ (us ++ ds) (vs ++ dvs) Q E hr I.env0 (hb s us I.kIn hl) r2 h) fun r s' hq => ?_)
  cases r with
  | error e => exact hx pins σ H s e s' I hq
  | ok fl =>
    cases fl with
    | ret u => exact I.after hq
    | next => exact False.elim hq
    | brk => exact False.elim hq
    | cont => exact False.elim hq

theorem pe_call (F : FnOk X.prog X.w X.K X.mg X.base CX k f fd ps sp) (hr : Room k X.A) (hg : Gl X x) (hm : X.mg x = some (.ref f)) (hk : PySem.W.keepIn X.K (.ref f) = true) (hb : Binds X.K fd ps ds) (hd : Vals dvs ds) (hx : Passes CX X E)
    (ha : PA X (e :: es) t) (hdb : (x == ("__debug__" : Str)) = false := by decide) (he : starEach (e :: es) X.env = (false, eval e X.env) :: starEach es X.env := by rfl) (hpl : (backTo pos (starEach es X.env)).any (·.1) = false := by rfl) :
    PE X (.Call (.Name x p) (e :: es) [] pos) (tCall sp dvs E t) := by
  intro pins s σ H Q I h
  refine wpAny_Call_Name_kw (ld_glob I hg hm ?_ hdb)
  refine PySem.W.callWith_K (h₀ := X.base) I.ok.mod.kin hk (thn (ha pos pins s σ H _ I h) fun us s1 ⟨vs, H1, I1, r, q⟩ => ⟨I1.kIn, ?_⟩) he hpl
  exact run_fn F hr hb hd hx I1 r q
end
section
variable {X : Cx} {CX : CXT} {k : Nat} {f C : Addr} {fd : FuncData} {ps ks : List Str} {sp : Sp} {E : XK} {x m : Str} {p pos apos kpos : Pos} {e o : Expr} {es : List Expr} {kws : List Keyword} {te ta : TE} {t tk : TA} {nm : Option Str}
variable {g : List Value → List Value → List Value} {gV : List V → List V → List V}
end
structure FnScope (N P : List Str) (sc : Scope) : Prop where
  kind : sc.kind = .function
  co : sc.isCoroutine = false
  gen : sc.isGenerator = false
  nd : N.Nodup
  pre : N.take P.length = P
  par : ∀ x ∈ P, sc.names.lookup x = some .local ∨ sc.names.lookup x = some .cell
  nofree : ∀ y ∈ sc.names, y.2 ≠ .free

theorem bindL_out {kindOf : Str → Option NameKind} {x : Str} : ∀ {binds : List (Str × Value)} {m : Str → Option Value}, (∀ v, (x, v) ∉ binds) → bindL kindOf binds m x = m x
  | [], _, _ => rfl
  | (n, v) :: r, m, h => by
    unfold bindL
    rw [bindL_out fun w hw => h w (List.mem_cons_of_mem _ hw)]
    split
    · have : x ≠ n := by rintro rfl; exact h v List.mem_cons_self
      simp [this]
    · rfl
theorem bindC_out {kindOf : Str → Option NameKind} {x : Str} : ∀ {binds : List (Str × Value)} {m : Str → Option Value}, (∀ v, (x, v) ∉ binds) → bindC kindOf binds m x = m x
  | [], _, _ => rfl
  | (n, v) :: r, m, h => by
    unfold bindC
    rw [bindC_out fun w hw => h w (List.mem_cons_of_mem _ hw)]
    split
    · rfl
    · have : x ≠ n := by rintro rfl; exact h v List.mem_cons_self
      simp [this]
theorem bindL_get {kindOf : Str → Option NameKind} {x : Str} {v : Value} : ∀ {P : List Str} {vs : List Value} {i : Nat} {m : Str → Option Value}, P.Nodup → P[i]? = some x → vs[i]? = some v → kindOf x = some .local →
    bindL kindOf (P.zip vs) m x = some v
  | [], _, _, _, _, h, _, _ => by simp at h
  | _ :: _, [], _, _, _, _, h, _ => by simp at h
  | p :: P, w :: vs, 0, m, nd, h1, h2, hk => by
    simp at h1 h2; subst h1; subst h2
    show bindL kindOf ((p, w) :: P.zip vs) m p = _
    unfold bindL
    rw [bindL_out fun v hv => (List.nodup_cons.mp nd).1 (List.of_mem_zip hv).1, if_pos hk]
    simp
  | p :: P, w :: vs, i + 1, m, nd, h1, h2, hk => by
    show bindL kindOf ((p, w) :: P.zip vs) m x = _
    unfold bindL
    exact bindL_get (i := i) (List.nodup_cons.mp nd).2 (by simpa using h1) (by simpa using h2) hk
theorem bindC_get {kindOf : Str → Option NameKind} {x : Str} {v : Value} : ∀ {P : List Str} {vs : List Value} {i : Nat} {m : Str → Option Value}, P.Nodup → P[i]? = some x → vs[i]? = some v → kindOf x ≠ some .local →
    bindC kindOf (P.zip vs) m x = some v
  | [], _, _, _, _, h, _, _ => by simp at h
  | _ :: _, [], _, _, _, _, h, _ => by simp at h
  | p :: P, w :: vs, 0, m, nd, h1, h2, hk => by
    simp at h1 h2; subst h1; subst h2
    show bindC kindOf ((p, w) :: P.zip vs) m p = _
    unfold bindC
    rw [bindC_out fun v hv => (List.nodup_cons.mp nd).1 (List.of_mem_zip hv).1, if_neg hk]
    simp
  | p :: P, w :: vs, i + 1, m, nd, h1, h2, hk => by
    show bindC kindOf ((p, w) :: P.zip vs) m x = _
    unfold bindC
    exact bindC_get (i := i) (List.nodup_cons.mp nd).2 (by simpa using h1) (by simpa using h2) hk
def start (N : List Str) (vs : List V) : St := vs.map some ++ List.replicate (N.length - vs.length) none
def cxOf (CX : CXT) (P : Program) (w : World) (K : PySem.W.Frag) (mg : Str → Option Value) (base : Heap) (N : List Str) (qual : Str) (scope : Scope) (f : Addr) (cd : Value) (A : Around) (outer : List Env) (s : Shared) (H : Hp) (E : XK) : Cx where
  prog := P
  w := w
  K := K
  mg := mg
  base := base
  A := A.deeper (envOfC qual scope s.heap.objs.size f cd)
  N := N
  s₀ := s
  H₀ := H
  env := envOfC qual scope s.heap.objs.size f cd
  outer := outer
  stack := envOfC qual scope s.heap.objs.size f cd :: outer
  ex := []
  calm := true
  fn := fun _ => true
  pn := []
  xe := fun e s' => wpAny (model P w) (A.deeper (envOfC qual scope s.heap.objs.size f cd)) (leaving (envOfC qual scope s.heap.objs.size f cd) e) (fun _ s'' => CX outer H s E e s'') (fun e' s'' => CX outer H s E e' s'') s'

theorem cell_has {sc : Scope} {n : Nat} {x : Str} (h : sc.names.lookup x = some .cell) : ∃ c, (cellsFrom n sc.names []).lookup x = some c := by
  have q := PySem.W.cellsFrom_some sc.names n [] (.inl h)
  exact Option.isSome_iff_exists.mp q

theorem inv_start {CX : CXT} {P : Program} {w : World} {K : PySem.W.Frag} {mg : Str → Option Value} {base : Heap} {N ps : List Str} {qual : Str} {scope : Scope} {f : Addr} {cd : Value} {A : Around} {outer : List Env} {s s1 : Shared} {H : Hp} {E : XK} {us : List Value} {vs : List V}
    (S : FnScope N ps scope) (hd : A.handled = none) (e0 : Env0 P w K mg base A outer s H) (hl : vs.length = ps.length) (r : Vals vs us)
    (x : InCallC s s.heap.objs.size (bindL (envOfC qual scope s.heap.objs.size f cd).kindOf (ps.zip us) fun _ => none) (cellsFrom (s.heap.objs.size + 1) scope.names []) (bindC (envOfC qual scope s.heap.objs.size f cd).kindOf (ps.zip us) fun _ => none) s1) :
    Inv (cxOf CX P w K mg base N qual scope f cd A outer s H E) [] (start N vs) H s1 := by
  have hpl : ps.length ≤ N.length := by have := congrArg List.length S.pre; rw [List.length_take] at this; omega
  obtain ⟨h1, tk, rfl, hk⟩ := x.done
  have noA : ∀ b : Addr, b ∉ (cxOf CX P w K mg base N qual scope f cd A outer s H E).ex := fun b z => absurd (show b ∈ ([] : List Addr) from z) (by simp)
  refine ⟨⟨e0.mod, S.kind, rfl, rfl, Nat.le_refl _, fun y z c h1 h2 => ?_, fun y hy => ?_, fun y c _ h => ?_, fun _ => hd, Around.frames_deeper e0.frames, .inr ⟨rfl, rfl⟩, fun b z => absurd z (noA b), e0.bs, e0.bsz, fun b _ _ => noA b, fun b z => absurd z (noA b), e0.funs, e0.frf⟩,
    rfl, e0.bare, Un.kept hk, ⟨_, x.toInCall.ns, fun i y v h1 h2 h3 => ?_⟩, fun y c h => ⟨_, x.cell y c h⟩, e0.hok.fresh (Nat.le_refl _), fun y c h => ?_, fun p hp => absurd (show p ∈ ([] : List (Addr × Obj)) from hp) (by simp), e0.hok.kept hk, ?_⟩
  · exact name_of_addr x.apart (PySem.mem_of_lookup h1) (PySem.mem_of_lookup h2)
  · have hy : scope.names.lookup y = some .cell ∨ scope.names.lookup y = some .free := hy
    rcases hy with hy | hy
    · exact cell_has hy
    · exact absurd rfl (S.nofree _ (PySem.mem_of_lookup hy))
  · exact Nat.le_of_lt (x.above y c (PySem.mem_of_lookup h))
  · have hi : i < vs.length := by
      unfold start at h2
      by_cases hi : i < vs.length
      · exact hi
      · rw [List.getElem?_append_right (by simpa using hi)] at h2
        rw [List.getElem?_replicate] at h2
        split at h2 <;> cases h2
    have ha : vs[i]? = some v := by
      unfold start at h2
      rw [List.getElem?_append_left (by simpa using hi), List.getElem?_map] at h2
      cases e : vs[i]? with
      | none => rw [e] at h2; cases h2
      | some a => rw [e] at h2; cases h2; rfl
    obtain ⟨u, hu, rv⟩ := r.get ha
    have hp : ps[i]? = some y := by
      rw [← S.pre, List.getElem?_take_of_lt (by omega)]; exact h1
    have ndP : ps.Nodup := by rw [← S.pre]; exact S.nd.sublist (List.take_sublist _ _)
    refine ⟨u, rv, ?_⟩
    rcases S.par y (List.mem_of_getElem? hp) with k | k
    · exact .inl ⟨k, bindL_get ndP hp hu k⟩
    · obtain ⟨c, e⟩ := cell_has (n := s.heap.objs.size + 1) k
      refine .inr ⟨.inl k, c, e, ?_⟩
      have q := x.cell y c e
      rw [bindC_get ndP hp hu (by show scope.names.lookup y ≠ _; rw [k]; decide)] at q
      exact q
  · exact e0.hok.fresh (Nat.le_of_lt (x.above y c (PySem.mem_of_lookup h)))
  · unfold start
    show _ = N.length
    rw [List.length_append, List.length_map, List.length_replicate]
    omega
theorem fn_of {CX : CXT} {P : Program} {w : World} {K : PySem.W.Frag} {mg : Str → Option Value} {base : Heap} {k : Nat} {f : Addr} {name qual : Str} {params : Arguments} {body : List Stmt} {scope : Scope} {dV kV doc pm cdv ct oc : Value} {an od : Option Addr}
    {osl : Array (Option Value)} {N ps : List Str} {sp : Sp} (lk : K.lookup f = some ⟨oc, od, .func (PySem.W.fnOf name qual params body scope dV kV doc pm an cdv ct), osl⟩) (hcd : PySem.W.codeIn K cdv qual = true) (S : FnScope N ps scope)
    (len : ∀ vs H Q E, sp vs H Q E → vs.length = ps.length)
    (hbody : ∀ (A : Around) (outer : List Env) (s : Shared) (H : Hp) (vs : List V) (Q : VK) (E : XK), Room k (A.deeper (envOfC qual scope s.heap.objs.size f cdv)) → sp vs H Q E →
      ∃ t, PSs (cxOf CX P w K mg base N qual scope f cdv A outer s H E) body t ∧ t { nx := fun _ H' => Q .non H', rt := Q } (start N vs) H) :
    FnOk P w K mg base CX (k + 1) f (PySem.W.fnOf name qual params body scope dV kV doc pm an cdv ct) ps sp := by
  refine ⟨len, fun A outer s H args us vs Q E hr e0 hb r hsp => ?_⟩
  have hl := len _ _ _ _ hsp
  have KX : K.In s.heap := e0.mod.kin.keeps fun b o e => (e0.bs b o e).1
  have lim : s.heap.NoLimit := e0.mod.nolimit.keeps fun b o e => (e0.bs b o e).1
  have hkind : ∀ y ∈ ps.zip us, scope.names.lookup y.1 = some .local ∨ (scope.names.lookup y.1 = some .cell ∧ ((cellsFrom (s.heap.objs.size + 1) scope.names []).lookup y.1).isSome = true) := fun ⟨n, v⟩ hy => by
    rcases S.par n (List.of_mem_zip hy).1 with q | q
    · exact .inl q
    · exact .inr ⟨q, PySem.W.cellsFrom_some _ _ _ (.inl q)⟩
  refine codeAny_call_function hr.depth (KX _ _ lk) rfl S.co S.gen rfl (PySem.W.codeRec_of KX hcd) (hb _ _ _ _ ?_)
  refine wpAny_newFunctionEnv_cells S.kind hkind fun env he s1 x => ?_
  subst he
  refine ⟨lim.keeps x.toInCall.keep, codeAny_func ?_⟩
  obtain ⟨t, ht, hq⟩ := hbody A outer s H vs Q E (hr.deeper _) hsp
  have I : Inv (cxOf CX P w K mg base N qual scope f cdv A outer s H E) [] (start N vs) H s1 := inv_start S hr.hd e0 hl r x
  refine wpAny_mono (ht [] s1 (start N vs) H _ I hq) (fun fl s' hs => ?_) fun e s' hs => hs
  have fin : ∀ {σ' : St} {H' : Hp} {v : V} {u : Value}, Inv (cxOf CX P w K mg base N qual scope f cdv A outer s H E) [] σ' H' s' → RelV v u → Q v H' → CE outer P w H s Q u s' :=
    fun {σ' H' v u} J rv q => ⟨v, H', J.os, J.bare, J.base, J.hok, rv, q⟩
  cases fl with
  | ret u =>
    obtain ⟨v, σ', H', J, rv, q⟩ := hs
    exact fin J rv q
  | next =>
    obtain ⟨σ', H', J, q⟩ := hs
    exact fin (v := V.non) (u := Value.none) J rfl q
  | brk =>
    obtain ⟨_, _, _, q⟩ := hs
    exact False.elim q
  | cont =>
    obtain ⟨_, _, _, q⟩ := hs
    exact False.elim q
end L2

namespace L2
open PySem PySem.Spec PyProof.Rows
section
variable {X : Cx} {x : Str} {p pos : Pos} {e : Expr} {es : List Expr} {t : TA} {id T : String} {r : List V → Hp → VK → Prop}

def tCB (r : List V → Hp → VK → Prop) (t : TA) : TE := fun σ H Q => t σ H fun vs H1 => r vs H1 Q
theorem pe_callB (hc : CallR X (.builtin id) r) (hg : Gl X x) (hm : X.mg x = none) (hv : bootBuiltins x = some (.builtin id)) (ha : PA X (e :: es) t) (hn : x ≠ "__name__" := by decide) (hdb : (x == ("__debug__" : Str)) = false := by decide)
    (he : starEach (e :: es) X.env = (false, eval e X.env) :: starEach es X.env := by rfl) (hpl : (backTo pos (starEach es X.env)).any (·.1) = false := by rfl) : PE X (.Call (.Name x p) (e :: es) [] pos) (tCB r t) := by
  intro pins s σ H Q I h
  refine wpAny_Call_Name_kw (ld_blt I hg hm hv ?_ hn hdb)
  exact PyProof.Rows.callWith_builtin1 (thn (ha pos pins s σ H _ I h) fun us s1 ⟨vs, H1, I1, r1, q1⟩ => hc pins s1 σ H1 vs us Q I1 r1 q1) he hpl
theorem pe_callTy (hc : CallR X (.type T) r) (hg : Gl X x) (hm : X.mg x = none) (hv : bootBuiltins x = some (.type T)) (ha : PA X (e :: es) t) (hn : x ≠ "__name__" := by decide) (hdb : (x == ("__debug__" : Str)) = false := by decide)
    (he : starEach (e :: es) X.env = (false, eval e X.env) :: starEach es X.env := by rfl) (hpl : (backTo pos (starEach es X.env)).any (·.1) = false := by rfl) : PE X (.Call (.Name x p) (e :: es) [] pos) (tCB r t) := by
  intro pins s σ H Q I h
  refine wpAny_Call_Name_kw (ld_blt I hg hm hv ?_ hn hdb)
  exact PyProof.Rows.callWith_type1 (thn (ha pos pins s σ H _ I h) fun us s1 ⟨vs, H1, I1, r1, q1⟩ => hc pins s1 σ H1 vs us Q I1 r1 q1) he hpl
end
end L2

namespace HT
open PySem PyProof.Rows

section
open PySem.SeqAt
open PySem.AutoSeq1 (wpAny_loadPart')
open PySem.MeetsSeq PySem.MeetsSeq2 PySem.MeetsSeq3

end

section
variable {prog : Program} {w : World} {A : Around} {E : Value → Shared → Prop} {s : Shared}
theorem cat_tup {t b : Addr} {vs ws : List Value} {Q : Value → Shared → Prop} (ht : IsTup s.heap t vs.toArray) (hb : IsTup s.heap b ws.toArray) (hv : vs ≠ [])
    (h1 : ws = [] → Q (.ref t) s) (h2 : ws ≠ [] → Q (.ref s.heap.objs.size) { s with heap := s.heap.push { cls := .type "tuple", data := .seq (vs ++ ws).toArray } })
    (hsz : vs.length + ws.length ≤ sizeLine) : wpAny (model prog w) A (binaryOp .Add (.ref t) (.ref b)) Q E s := by
  obtain ⟨⟨cls, dd, data, sl⟩, ho, hc, n, hd⟩ := id ht
  obtain ⟨⟨cls2, dd2, data2, sl2⟩, ho2, hc2, n2, hd2⟩ := id hb
  simp only at hc hd hc2 hd2
  subst hc hd hc2 hd2
  have e : vs.toArray ++ ws.toArray = (vs ++ ws).toArray := by simp
  by_cases hw : ws = []
  · exact concat_meets ⟨_, ho, rfl⟩ ⟨_, ho2, rfl⟩ noFill_tuple_add seq_tuple_add PySem.F.slot_tuple_add PySem.F.entry_tuple_add (PySem.F.args_tuple_add_2 _ _)
      (tuple_addW1 t b vs.toArray ws.toArray n n2 dd dd2 sl sl2 (by simpa using hv) (by simp [hw])) ⟨ho, ho2, h1 hw⟩
  · refine concat_meets ⟨_, ho, rfl⟩ ⟨_, ho2, rfl⟩ noFill_tuple_add seq_tuple_add PySem.F.slot_tuple_add PySem.F.entry_tuple_add (PySem.F.args_tuple_add_2 _ _)
      (tuple_addW2 t b vs.toArray ws.toArray n n2 dd dd2 sl sl2 (by simpa using hv) (by simpa using hw) (by rw [List.size_toArray, List.size_toArray]; exact hsz)) ⟨ho, ho2, ?_⟩
    rw [e]
    exact h2 hw
def sIx (n d : Nat) : Option Int → Nat
  | none => d
  | some v => if v < 0 then (v + (n : Int)).toNat else min v.toNat n
theorem sIx_none (n d : Nat) : sIx n d none = d := rfl
theorem sIx_nat (n d k : Nat) : sIx n d (some (k : Int)) = min k n := by
  show (if (k : Int) < 0 then ((k : Int) + (n : Int)).toNat else min (k : Int).toNat n) = min k n
  rw [if_neg (by omega), Int.toNat_natCast]
theorem sIx_le (n d : Nat) (hd : d ≤ n) (o : Option Int) : sIx n d o ≤ n := by
  cases o with
  | none => exact hd
  | some v =>
    show (if v < 0 then (v + (n : Int)).toNat else min v.toNat n) ≤ n
    by_cases hv : v < 0
    · rw [if_pos hv]; omega
    · rw [if_neg hv]; exact Nat.min_le_right _ _
theorem clip_eq (v : Int) (n d : Nat) : (if v < 0 then max (v + (n : Int)) 0 else min v (n : Int)) = ((sIx n d (some v) : Nat) : Int) := by
  show (if v < 0 then max (v + (n : Int)) 0 else min v (n : Int)) = (((if v < 0 then (v + (n : Int)).toNat else min v.toNat n) : Nat) : Int)
  by_cases hv : v < 0
  · simp only [if_pos hv]; omega
  · simp only [if_neg hv]; omega
theorem adjust_gen (lo hi : Option Int) (n : Nat) : Builtin.Slice.sliceAdjust lo hi 1 (n : Int) = (((sIx n 0 lo : Nat) : Int), ((sIx n n hi : Nat) : Int)) := by
  have h1 : ¬ ((1 : Int) < 0) := by omega
  unfold Builtin.Slice.sliceAdjust
  simp only [h1, if_false]
  refine Prod.ext ?_ ?_
  · cases lo with
    | none => rfl
    | some v => exact clip_eq v n 0
  · cases hi with
    | none => rfl
    | some v => exact clip_eq v n n
theorem places_gen (i j : Nat) : Builtin.Slice.slicePlaces (i : Int) (j : Int) 1 = j - i := by
  unfold Builtin.Slice.slicePlaces
  have h1 : (1 : Int) > 0 := by omega
  simp only [h1, if_true, Int.ediv_one]
  split <;> omega
theorem slicePart_ {v : Value} {o : Option Int} {Q : Option Int → Shared → Prop} (p : IsPart v o) (h : Q o s) : wpAny (model prog w) A (Builtin.Slice.slicePartIndex v) Q E s := by
  cases p with
  | none => exact slicePart_none h
  | int i t => exact slicePart_int h
theorem sliceApplied_gen {sl : Addr} {vl vu : Value} {lo hi : Option Int} {n : Nat} {Q : Int × Int × Nat → Shared → Prop} (hs : s.heap.IsSliceOf sl vl vu .none) (pl : IsPart vl lo) (pu : IsPart vu hi)
    (h : Q (((sIx n 0 lo : Nat) : Int), 1, sIx n n hi - sIx n 0 lo) s) : wpAny (model prog w) A (Builtin.Slice.sliceApplied (.ref sl) (pure (n : Int))) Q E s := by
  obtain ⟨os, hos, hcs, hds⟩ := id hs
  unfold Builtin.Slice.sliceApplied Builtin.Slice.sliceFields
  refine wpAny_bind (wpAny_bind (wpAny_field hos hds (x := vl) rfl (wpAny_bind (wpAny_field hos hds (x := vu) rfl (wpAny_bind (wpAny_field hos hds (x := .none) rfl (wpAny_pure ?_)))))))
  refine wpAny_bind (slicePart_none ?_)
  show wpAny _ _ (if ((1 : Int) == 0) = true then _ else _) _ _ s
  rw [if_neg (by decide)]
  refine wpAny_bind (slicePart_ pl (wpAny_bind (slicePart_ pu (wpAny_bind (wpAny_pure ?_)))))
  show wpAny _ _ (match Builtin.Slice.sliceAdjust lo hi 1 (n : Int) with | (lo, hi) => pure (lo, (1 : Int), Builtin.Slice.slicePlaces lo hi 1)) _ _ s
  rw [adjust_gen lo hi n]
  show wpAny _ _ (pure (((sIx n 0 lo : Nat) : Int), (1 : Int), Builtin.Slice.slicePlaces ((sIx n 0 lo : Nat) : Int) ((sIx n n hi : Nat) : Int) 1)) _ _ s
  rw [places_gen]
  exact wpAny_pure h
theorem pick_gen (xs : Array Value) (i k : Nat) : ((List.range k).filterMap fun (m : Nat) => xs[((i : Int) + (m : Int) * 1).toNat]?).toArray = ((xs.toList.drop i).take k).toArray := by
  have e : (fun (m : Nat) => xs[((i : Int) + (m : Int) * 1).toNat]?) = fun m => xs[i + m]? := by
    funext m
    have : ((i : Int) + (m : Int) * 1).toNat = i + m := by omega
    rw [this]
  rw [e]
  have := pick_run xs i k
  rw [List.filterMap_map] at this
  have e2 : ((fun x => xs[x]?) ∘ fun x => i + x) = fun m => xs[i + m]? := rfl
  rw [e2] at this
  rw [this]

theorem getItem_tuple_cut {t sl : Addr} {items : Array Value} {vl vu : Value} {lo hi : Option Int} {Q : Value → Shared → Prop} (ht : IsTup s.heap t items) (hs : s.heap.IsSliceOf sl vl vu .none) (pl : IsPart vl lo) (pu : IsPart vu hi)
    (hw : ¬ (sIx items.size 0 lo = 0 ∧ sIx items.size items.size hi = items.size))
    (h : Q (.ref s.heap.objs.size) { s with heap := s.heap.push { cls := .type "tuple", data := .seq ((items.toList.drop (sIx items.size 0 lo)).take (sIx items.size items.size hi - sIx items.size 0 lo)).toArray } })
    (hsz : items.size ≤ sizeLine) : wpAny (model prog w) A (getItem (.ref t) (.ref sl)) Q E s := by
  have htake : sizeOk (.seq ((items.toList.drop (sIx items.size 0 lo)).take (sIx items.size items.size hi - sIx items.size 0 lo)).toArray) := by
    show ((items.toList.drop (sIx items.size 0 lo)).take (sIx items.size items.size hi - sIx items.size 0 lo)).toArray.size ≤ sizeLine
    rw [List.size_toArray, List.length_take, List.length_drop, Array.length_toList]
    omega
  have hj : sIx items.size items.size hi ≤ items.size := sIx_le _ _ (Nat.le_refl _) hi
  obtain ⟨os, hos, hcs, hds⟩ := id hs
  have hTs : s.TypeIs (.ref sl) "slice" := ⟨os, hos, hcs⟩
  unfold getItem
  try with_reducible refine wpAny_holding ?_
  first | refine wpAny_bind (wpAny_pure ?_) | skip
  refine wpAny_bind (wpAny_sequenceKey ht.typeIs (by decide) ?_)
  refine wpAny_bind (wpAny_callSpecial?_slot (name := Str.ofString "__getitem__") ht.typeIs PyProof.Rows.slot_tuple_getitem
    (wpAny_call_entry PyProof.Rows.slot_tuple_getitem ht.typeIs entry_tuple_getitem ?_ (args_tuple_getitem _ _)))
  show wpAny _ _ (Builtin.Tuple.tupleItemsOf (.ref t) >>= _) _ _ s
  refine wpAny_bind (tupleItemsOf_ ht ?_)
  refine wpAny_bind (wpAny_typeOf hTs ?_)
  rw [if_pos (by decide)]
  refine wpAny_bind (sliceApplied_gen hs pl pu ?_)
  have hno : ¬ ((((sIx items.size 0 lo : Nat) : Int) == 0 && (1 : Int) == 1 && (sIx items.size items.size hi - sIx items.size 0 lo) == items.size) = true) := by
    intro q
    rw [Bool.and_eq_true, Bool.and_eq_true] at q
    have q1 : ((sIx items.size 0 lo : Nat) : Int) = 0 := eq_of_beq q.1.1
    have q2 : sIx items.size items.size hi - sIx items.size 0 lo = items.size := eq_of_beq q.2
    exact hw ⟨by omega, by omega⟩
  show wpAny _ _ (if (((sIx items.size 0 lo : Nat) : Int) == 0 && (1 : Int) == 1 && (sIx items.size items.size hi - sIx items.size 0 lo) == items.size) = true then _ else _) _ _ s
  rw [if_neg hno, pick_gen]
  first
    | exact wpAny_bind (m := Builtin.Tuple.tupleExact _) (wpAny_newObj_type (wpAny_pure ⟨_, rfl, wpAny_pure h⟩) htake)
    | exact wpAny_bind (m := Builtin.Tuple.tupleExact _) (wpAny_newObj_type (wpAny_bind (wpAny_pure (wpAny_pure ⟨_, rfl, wpAny_pure h⟩))) htake)
    | exact wpAny_bind (wpAny_bind (m := Builtin.Tuple.tupleExact _) (wpAny_newObj_type (wpAny_pure (wpAny_pure ⟨_, rfl, wpAny_pure h⟩)) htake))
    | exact wpAny_bind (wpAny_bind (m := Builtin.Tuple.tupleExact _) (wpAny_newObj_type (wpAny_pure ⟨_, rfl, wpAny_pure h⟩) htake))
end
end HT

namespace L2
open PySem PySem.Spec PyProof.Rows
abbrev TO := St → Hp → (Option Int → Hp → Prop) → Prop
def PO (X : Cx) (e : Option Expr) (t : TO) : Prop :=
  ∀ (pins : List (Addr × Obj)) (s : Shared) (σ : St) (H : Hp) (Q : Option Int → Hp → Prop), Inv X pins σ H s → t σ H Q →
    wpAny (model X.prog X.w) X.A (evalPart e X.env) (fun u s' => ∃ o H', Inv X pins σ H' s' ∧ IsPart u o ∧ Q o H') X.xe s
def tNoPart : TO := fun _ H Q => Q none H
def tPart (t : TE) : TO := fun σ H Q => t σ H fun x H1 => ∃ i, x = .int i ∧ Q (some i) H1

section
variable {X : Cx} {e : Expr} {te : TE} {lo hi : Option Expr} {tl th : TO} {pos p2 : Pos}

theorem po_none : PO X none tNoPart := by
  intro pins s σ H Q I h
  rw [evalPart_none]
  exact wpAny_pure ⟨none, H, I, .none, h⟩
theorem po_some (h : PE X e te) : PO X (some e) (tPart te) := by
  intro pins s σ H Q I hw
  rw [evalPart_some]
  refine thn (h pins s σ H _ I hw) fun u s1 ⟨x, H1, I1, r1, q1⟩ => ?_
  obtain ⟨i, rfl, q⟩ := q1
  obtain ⟨t, rfl⟩ := r1
  exact ⟨some i, H1, I1, .int i t, q⟩
def SlR (X : Cx) (r : V → Option Int → Option Int → Hp → VK → Prop) : Prop :=
  ∀ (pins : List (Addr × Obj)) (s : Shared) (σ : St) (H : Hp) (x : V) (v vl vu : Value) (lo hi : Option Int) (sl : Addr) (Q : VK), Inv X pins σ H s → RelV x v → s.heap.IsSliceOf sl vl vu .none → IsPart vl lo → IsPart vu hi → r x lo hi H Q →
    ∃ T id, typeLookup (.type T) "__getitem__" = pure (some (.builtin id)) ∧ s.TypeIs v T ∧ wpAny (model X.prog X.w) X.A (getItem v (.ref sl)) (EP X pins σ Q) X.xe s
def tSl (r : V → Option Int → Option Int → Hp → VK → Prop) (te : TE) (tl th : TO) : TE := fun σ H Q => te σ H fun x H1 => tl σ H1 fun l H2 => th σ H2 fun u H3 => r x l u H3 Q
theorem pe_slice {r : V → Option Int → Option Int → Hp → VK → Prop} (hr : SlR X r) (he : PE X e te) (hl : PO X lo tl) (hu : PO X hi th) : PE X (.Subscript e (.Slice lo hi none p2) pos) (tSl r te tl th) := by
  intro pins s σ H Q I h
  refine Subscript_ (thn (he pins s σ H _ I h) fun v s1 ⟨x, H1, I1, r1, q1⟩ => ?_)
  refine wpAny_Slice (thn (hl pins s1 σ H1 _ I1 q1) fun vl s2 ⟨l, H2, I2, pl, q2⟩ => thn (hu pins s2 σ H2 _ I2 q2) fun vu s3 ⟨u, H3, I3, pu, q3⟩ => ?_)
  rw [evalPart_none]
  refine wpAny_pure ?_
  have I4 : Inv X pins σ H3 { s3 with heap := s3.heap.push { cls := .type "slice", data := .fields #[vl, vu, .none] } } := I3.kept (t' := s3.toks) fun b ob q => Heap.get?_push_of_some _ q
  obtain ⟨T, id, hT, ht, hg⟩ := hr pins { s3 with heap := s3.heap.push { cls := .type "slice", data := .fields #[vl, vu, .none] } } σ H3 x v vl vu l u s3.heap.objs.size Q I4 r1 (Heap.IsSliceOf.new ..) pl pu q3
  show wpAny (model X.prog X.w) X.A (subscriptTail e (.Slice lo hi none p2) v (.ref s3.heap.objs.size)) (EP X pins σ Q) X.xe { s3 with heap := s3.heap.push { cls := .type "slice", data := .fields #[vl, vu, .none] } }
  exact tail_any (ops := [.ref s3.heap.objs.size, v]) ht hT hg (by with_unfolding_all rfl)
def cutV (xs : List V) (lo hi : Option Int) : List V := (xs.drop (HT.sIx xs.length 0 lo)).take (HT.sIx xs.length xs.length hi - HT.sIx xs.length 0 lo)
theorem cutV_length (xs : List V) (lo hi : Option Int) : (cutV xs lo hi).length ≤ xs.length := by
  unfold cutV
  rw [List.length_take, List.length_drop]
  omega
def rSlT (K : PySem.W.Frag) : V → Option Int → Option Int → Hp → VK → Prop := fun x lo hi H Q => ∃ a xs, x = .ref a ∧ SqT K H a xs ∧
  ¬ (HT.sIx xs.length 0 lo = 0 ∧ HT.sIx xs.length xs.length hi = xs.length) ∧ ∀ p, H p = none → Q (.ref p) (upd H p (.tup (cutV xs lo hi)))
theorem sl_tup : SlR X (rSlT X.K) := by
  intro pins s σ H x v vl vu lo hi sl Q I rx hs pl pu h
  obtain ⟨a, xs, rfl, hx, hw, q⟩ := h
  cases rx
  obtain ⟨its, r, ht, hz⟩ := I.tuple hx
  have hlen : its.toArray.size = xs.length := by rw [List.size_toArray]; exact r.length.symm
  refine ⟨"tuple", _, PyProof.Rows.slot_tuple_getitem.lookup, ht.typeIs, ?_⟩
  refine HT.getItem_tuple_cut ht hs pl pu (by rw [hlen]; exact hw) ?_ (by rw [hlen]; exact hz)
  rw [hlen]
  refine ⟨.ref s.heap.objs.size, _, I.laid (t' := s.toks) (o := .tup (cutV xs lo hi)) (fun b ob q => Heap.get?_push_of_some _ q) (Nat.le_refl _) ?_, rfl, q _ (I.hok.fresh (Nat.le_refl _))⟩
  exact ⟨Nat.le_trans (cutV_length xs lo hi) hz, _, (r.drop (HT.sIx xs.length 0 lo)).take (HT.sIx xs.length xs.length hi - HT.sIx xs.length 0 lo), TupX.new _ _⟩
def rCatT (K : PySem.W.Frag) : R2 := fun x y H Q => ∃ a b xs ys, x = .ref a ∧ y = .ref b ∧ SqT K H a xs ∧ SqT K H b ys ∧ xs ≠ [] ∧ xs.length + ys.length ≤ sizeLine ∧
  (ys = [] → Q (.ref a) H) ∧ (ys ≠ [] → ∀ p, H p = none → Q (.ref p) (upd H p (.tup (xs ++ ys))))
theorem Vals.nil_iff {xs : List V} {us : List Value} (r : Vals xs us) : us = [] ↔ xs = [] := by
  cases r with
  | nil => simp
  | cons _ _ => simp
theorem op_catT : OpR X (binaryOp .Add) (rCatT X.K) := by
  intro pins s σ H x y v u Q I rx ry h
  obtain ⟨a, b, xs, ys, rfl, rfl, ha, hb, hx, hz, q1, q2⟩ := h
  cases rx
  cases ry
  obtain ⟨its, r1, p1, _⟩ := I.tuple ha
  obtain ⟨its2, r2, p2, _⟩ := I.tuple hb
  refine HT.cat_tup p1 p2 (fun z => hx (r1.nil_iff.mp z)) (fun z => ⟨.ref a, H, I, rfl, q1 (r2.nil_iff.mp z)⟩) (fun z => ?_) (by rw [← r1.length, ← r2.length]; exact hz)
  refine ⟨.ref s.heap.objs.size, _, I.laid (t' := s.toks) (o := .tup (xs ++ ys)) (fun b ob q => Heap.get?_push_of_some _ q) (Nat.le_refl _) ?_, rfl, q2 (fun w => z (r2.nil_iff.mpr w)) _ (I.hok.fresh (Nat.le_refl _))⟩
  exact ⟨by rw [List.length_append]; exact hz, _, r1.append r2, TupX.new _ _⟩
end
end L2

namespace L2
open PySem PySem.Spec PyProof.Rows
def ixN (n : Nat) (i : Int) : Option Nat := if 0 ≤ i then (if i < n then some i.toNat else none) else if -(n : Int) ≤ i then some (i + n).toNat else none
def atI {α : Type} (xs : List α) (i : Int) : Option α := (ixN xs.length i).bind fun j => xs[j]?
theorem ixN_seq {n : Nat} {i : Int} {j : Nat} (h : ixN n i = some j) : seqIndex? i n = some j ∧ j < n ∧ -(n : Int) ≤ i ∧ i < n := by
  unfold ixN at h
  by_cases h0 : 0 ≤ i
  · rw [if_pos h0] at h
    by_cases h1 : i < n
    · rw [if_pos h1] at h
      have e : i.toNat = j := Option.some.inj h
      exact ⟨by rw [seqIndex_of h0 h1, e], by omega, by omega, h1⟩
    · rw [if_neg h1] at h; cases h
  · rw [if_neg h0] at h
    by_cases h1 : -(n : Int) ≤ i
    · rw [if_pos h1] at h
      have e : (i + n).toNat = j := Option.some.inj h
      exact ⟨by rw [seqIndex_neg (by omega) h1, e], by omega, h1, by omega⟩
    · rw [if_neg h1] at h; cases h
theorem atI_get {α : Type} {xs : List α} {i : Int} {v : α} (h : atI xs i = some v) : ∃ j, seqIndex? i xs.length = some j ∧ xs[j]? = some v ∧ j < xs.length ∧ -(xs.length : Int) ≤ i ∧ i < xs.length := by
  unfold atI at h
  cases e : ixN xs.length i with
  | none => rw [e] at h; cases h
  | some j =>
    rw [e] at h
    obtain ⟨h1, h2, h3, h4⟩ := ixN_seq e
    exact ⟨j, h1, h, h2, h3, h4⟩
theorem atI_nat {α : Type} {xs : List α} {j : Nat} {v : α} (h : xs[j]? = some v) : atI xs (j : Int) = some v := by
  have hj : j < xs.length := (List.getElem?_eq_some_iff.mp h).1
  have e : ixN xs.length (j : Int) = some j := by
    unfold ixN
    rw [if_pos (by omega), if_pos (by omega)]; simp
  unfold atI; rw [e]; exact h
theorem atI_last {α : Type} (xs : List α) (v : α) : atI (xs ++ [v]) (-1) = some v := by
  have hl : (xs ++ [v]).length = xs.length + 1 := by simp
  have e : ixN (xs ++ [v]).length (-1) = some xs.length := by
    unfold ixN
    rw [hl, if_neg (by decide), if_pos (by omega)]
    congr 1
    omega
  unfold atI
  rw [e]
  show (xs ++ [v])[xs.length]? = some v
  simp
def PlainIx (b : Expr) : Prop := ∀ o i, subscripted b false o i = operate [o, i] (getItem o i)
def IxR (X : Cx) (r : R2) : Prop :=
  ∀ (value slice : Expr) (pins : List (Addr × Obj)) (s : Shared) (σ : St) (H : Hp) (x y : V) (v u : Value) (Q : VK), Inv X pins σ H s → RelV x v → RelV y u → r x y H Q →
    subscripted slice false v u = operate [v, u] (getItem v u) → wpAny (model X.prog X.w) X.A (subscriptTail value slice v u) (EP X pins σ Q) X.xe s
def MtR (X : Cx) (id : String) (r : V → List V → Hp → VK → Prop) : Prop :=
  ∀ (pins : List (Addr × Obj)) (s : Shared) (σ : St) (H : Hp) (x : V) (xs : List V) (v : Value) (us : List Value) (Q : VK), Inv X pins σ H s → RelV x v → Vals xs us → r x xs H Q →
    wpAny (model X.prog X.w) X.A (call (.builtin id) (v :: us)) (EP X pins σ Q) X.xe s
section
variable {X : Cx} {a b : Expr} {ta tb : TE} {pos : Pos}
theorem pe_ix {r : R2} (hr : IxR X r) (ha : PE X a ta) (hb : PE X b tb) (hs : PlainIx b) : PE X (.Subscript a b pos) (tOp r ta tb) := by
  intro pins s σ H Q I h
  exact Subscript_ (binT ha hb I h fun v u s2 x y H2 I2 rx ry q => hr a b pins s2 σ H2 x y v u Q I2 rx ry q (hs _ _))

def rIxL (K : PySem.W.Frag) : R2 := fun x y H Q => ∃ p xs i v, x = .ref p ∧ y = .int i ∧ SqL K H p xs ∧ atI xs i = some v ∧ Q v H
def rIxT (K : PySem.W.Frag) : R2 := fun x y H Q => ∃ p xs i v, x = .ref p ∧ y = .int i ∧ SqT K H p xs ∧ atI xs i = some v ∧ Q v H
theorem ix_list : IxR X (rIxL X.K) := by
  intro value slice pins s σ H x y v u Q I rx ry h hs
  obtain ⟨p, xs, i, z, rfl, rfl, hq, he, q⟩ := h
  cases rx
  obtain ⟨t, rfl⟩ := ry
  obtain ⟨its, r, pl, hz⟩ := I.list hq
  obtain ⟨j, h1, h2, h3, h4, h5⟩ := atI_get he
  obtain ⟨w, ew, rw'⟩ := r.get h2
  have hl := r.length
  have hn := line63
  have fin : EP X pins σ Q w s := ⟨z, H, I, rw', q⟩
  by_cases h0 : 0 ≤ i
  · have hj : i.toNat = j := by
      rw [seqIndex_of h0 h5] at h1
      exact Option.some.inj h1
    exact item_listR pl.isList h0 (by omega) (by rw [hj]; simpa using ew) fin hs
  · have hj : (i + (its.toArray.size : Int)).toNat = j := by
      rw [seqIndex_neg (by omega) h4] at h1
      rw [List.size_toArray, ← hl]
      exact Option.some.inj h1
    exact subscriptTail_builtinR (x := w) pl.isList.typeIs slot_list_getitem.lookup
      (wpAny_getItem_list_neg (Q := fun r s' => r = w ∧ EP X pins σ Q r s') pl.isList (by omega) (by rw [List.size_toArray] <;> omega) (by omega) (by rw [hj]; simpa using ew) ⟨rfl, fin⟩) hs
theorem ix_tup : IxR X (rIxT X.K) := by
  intro value slice pins s σ H x y v u Q I rx ry h hs
  obtain ⟨p, xs, i, z, rfl, rfl, hq, he, q⟩ := h
  cases rx
  obtain ⟨t, rfl⟩ := ry
  obtain ⟨its, r, pl, hz⟩ := I.tuple hq
  obtain ⟨j, h1, h2, h3, h4, h5⟩ := atI_get he
  obtain ⟨w, ew, rw'⟩ := r.get h2
  have hl := r.length
  have hn := line63
  have fin : EP X pins σ Q w s := ⟨z, H, I, rw', q⟩
  exact subscriptTail_builtinR (x := w) pl.typeIs slot_tuple_getitem.lookup
    (getItem_tuple (j := j) (Q := fun r s' => r = w ∧ EP X pins σ Q r s') pl (by omega) (by omega) (by rw [List.size_toArray, ← hl]; exact h1) (by simpa using ew) ⟨rfl, fin⟩) hs
theorem mapSeq_set (its : List Value) (n j : Nat) (u : Value) : Obj.mapSeq (·.setIfInBounds j u) { cls := .type "list", data := .seq its.toArray n } = { cls := .type "list", data := .seq (its.set j u).toArray n } := by
  simp [Obj.mapSeq]
theorem Inv.lst {pins : List (Addr × Obj)} {σ : St} {H : Hp} {s : Shared} {p : Addr} {xs : List V} (I : Inv X pins σ H s) (h : H p = some (.lst xs)) :
    ∃ (its : List Value) (n : Nat), Vals xs its ∧ s.heap.get? p = some { cls := .type "list", data := .seq its.toArray n } ∧ xs.length ≤ sizeLine := by
  obtain ⟨z, its, n, r, e⟩ := I.hok p _ h
  exact ⟨its, n, r, e, z⟩
theorem Inv.lstUpd {pins : List (Addr × Obj)} {σ : St} {H : Hp} {s : Shared} {p : Addr} {xs ys : List V} {its its' : List Value} {n n' : Nat} {f : Obj → Obj} (I : Inv X pins σ H s) (h : H p = some (.lst xs))
    (ho : s.heap.get? p = some { cls := .type "list", data := .seq its.toArray n }) (hf : f { cls := .type "list", data := .seq its.toArray n } = { cls := .type "list", data := .seq its'.toArray n' }) (r : Vals ys its') (hz : ys.length ≤ sizeLine) (t : Nat) :
    Inv X pins σ (upd H p (.lst ys)) { s with heap := s.heap.update p f, toks := t } := by
  have e : (s.heap.update p f).get? p = some { cls := .type "list", data := .seq its'.toArray n' } := by
    rw [Heap.get?_update_self f ho (by rw [hf] <;> rfl), hf]
  refine I.write (x := p) (e := p) (by rw [h]; trivial) (.inl rfl) (fun b u hb q => (Heap.get?_update_other _ _ (Ne.symm hb)).trans q) ⟨_, e⟩ ?_
  exact ⟨hz, its', n', r, e⟩
def rSetL : V → V → V → Hp → (Hp → Prop) → Prop := fun o i v H Q => ∃ p xs k j, o = .ref p ∧ i = .int k ∧ H p = some (.lst xs) ∧ ixN xs.length k = some j ∧ Q (upd H p (.lst (xs.set j v)))
theorem set_list : PSet X rSetL := by
  intro pins s σ H o i v ov iv u Q I ro ri rv h
  obtain ⟨p, xs, k, j, rfl, rfl, hp, hj, q⟩ := h
  cases ro
  obtain ⟨t, rfl⟩ := ri
  obtain ⟨its, n, r, ho, hz⟩ := I.lst hp
  obtain ⟨h1, h2, h3, h4⟩ := ixN_seq hj
  have hl := r.length
  have hn := line63
  have I' : Inv X pins σ (upd H p (.lst (xs.set j v))) { s with heap := s.heap.update p (Obj.mapSeq (·.setIfInBounds j u)) } :=
    I.lstUpd hp ho (mapSeq_set its n j u) (r.set rv j) (by rw [List.length_set]; exact hz) s.toks
  by_cases h0 : 0 ≤ k
  · have hk : k.toNat = j := by
      rw [seqIndex_of h0 h4] at h1
      exact Option.some.inj h1
    exact PySem.W.ki_setAt ho h0 (by omega) (by rw [List.size_toArray, ← hl]; exact h4) (by rw [hk]; exact ⟨_, I', q⟩)
  · have hk : (k + (its.toArray.size : Int)).toNat = j := by
      rw [seqIndex_neg (by omega) h3] at h1
      rw [List.size_toArray, ← hl]
      exact Option.some.inj h1
    exact PySem.W.ki_setBack ho (by omega) (by rw [List.size_toArray, ← hl]; exact h3) (by omega) (by rw [hk]; exact ⟨_, I', q⟩)
def flatV : V → Bool
  | .non => true
  | .bl _ => true
  | .int _ => true
  | .str _ => true
  | _ => false
def eqV : V → V → Bool
  | .non, .non => true
  | .bl a, .bl b => a == b
  | .bl a, .int b => (if a then 1 else 0) == b
  | .int a, .bl b => a == (if b then 1 else 0)
  | .int a, .int b => a == b
  | .str a, .str b => a == b
  | _, _ => false
theorem eqAt_V {A : Around} {s : Shared} {y x : V} {u v : Value} (ry : RelV y u) (rx : RelV x v) (fy : flatV y = true) (fx : flatV x = true) : SeqAt.EqAt A s u v (eqV y x) := by
  cases y with
  | non =>
    cases ry
    cases x with
    | non => cases rx; exact SeqAt.EqAt.same _
    | bl b => cases rx; exact SeqAt.EqAt.none_bool b
    | int b => obtain ⟨t, rfl⟩ := rx; exact SeqAt.EqAt.none_int b t
    | str b => obtain ⟨t, rfl⟩ := rx; exact SeqAt.EqAt.none_str b t
    | _ => exact absurd (show false = true from fx) Bool.false_ne_true
  | bl a =>
    cases ry
    cases x with
    | non => cases rx; exact SeqAt.EqAt.bool_none a
    | bl b => cases rx; exact SeqAt.EqAt.bool_bool a b
    | int b => obtain ⟨t, rfl⟩ := rx; exact SeqAt.EqAt.bool_int a b t
    | str b => obtain ⟨t, rfl⟩ := rx; exact SeqAt.EqAt.bool_str a b t
    | _ => exact absurd (show false = true from fx) Bool.false_ne_true
  | int a =>
    obtain ⟨t', rfl⟩ := ry
    cases x with
    | non => cases rx; exact SeqAt.EqAt.int_none a t'
    | bl b => cases rx; exact SeqAt.EqAt.int_bool a t' b
    | int b => obtain ⟨t, rfl⟩ := rx; exact SeqAt.EqAt.int_int a t' b t
    | str b => obtain ⟨t, rfl⟩ := rx; exact SeqAt.EqAt.int_str a t' b t
    | _ => exact absurd (show false = true from fx) Bool.false_ne_true
  | str a =>
    obtain ⟨t', rfl⟩ := ry
    cases x with
    | non => cases rx; exact SeqAt.EqAt.str_none a t'
    | bl b => cases rx; exact SeqAt.EqAt.str_bool a t' b
    | int b => obtain ⟨t, rfl⟩ := rx; exact SeqAt.EqAt.str_int a t' b t
    | str b => obtain ⟨t, rfl⟩ := rx; exact SeqAt.EqAt.str_str a t' b t
    | _ => exact absurd (show false = true from fx) Bool.false_ne_true
  | _ => exact absurd (show false = true from fy) Bool.false_ne_true
def eqU (x : V) (u : Value) : Bool := match u with
  | .none => eqV .non x
  | .bool b => eqV (.bl b) x
  | .int i _ => eqV (.int i) x
  | .str z _ => eqV (.str z) x
  | _ => false
theorem eqU_of {x y : V} {u : Value} (r : RelV y u) (f : flatV y = true) : eqU x u = eqV y x := by
  cases y with
  | non => cases r; rfl
  | bl b => cases r; rfl
  | int i => obtain ⟨t, rfl⟩ := r; rfl
  | str z => obtain ⟨t, rfl⟩ := r; rfl
  | _ => exact absurd (show false = true from f) Bool.false_ne_true
theorem any_eqU {x : V} : ∀ {xs : List V} {us : List Value}, Vals xs us → xs.all flatV = true → us.any (eqU x) = xs.any fun y => eqV y x
  | _, _, .nil, _ => rfl
  | y :: xs, u :: us, .cons r t, f => by
    rw [List.all_cons, Bool.and_eq_true] at f
    rw [List.any_cons, List.any_cons, eqU_of r f.1, any_eqU t f.2]
theorem mem_eqAt {A : Around} {s : Shared} {x : V} {v : Value} (rx : RelV x v) (fx : flatV x = true) : ∀ {xs : List V} {us : List Value}, Vals xs us → xs.all flatV = true → ∀ u ∈ us, SeqAt.EqAt A s u v (eqU x u)
  | _, _, .nil, _ => fun u hu => by cases hu
  | y :: xs, u :: us, .cons r t, f => fun u' hu => by
    rw [List.all_cons, Bool.and_eq_true] at f
    rcases List.mem_cons.mp hu with rfl | hu
    · rw [eqU_of r f.1]; exact eqAt_V r rx f.1 fx
    · exact mem_eqAt rx fx t f.2 u' hu
def inV (x : V) (xs : List V) : Bool := xs.any fun y => eqV y x
def rIn (K : PySem.W.Frag) (neg : Bool) : R2 := fun x y H Q => ∃ p xs, y = .ref p ∧ (SqL K H p xs ∨ SqT K H p xs) ∧ flatV x = true ∧ xs.all flatV = true ∧ Q (.bl (if neg then !inV x xs else inV x xs)) H
theorem op_notIn_seq : OpR X (compareOp .NotIn) (rIn X.K true) := by
  intro pins s σ H x y v u Q I rx ry h
  obtain ⟨p, xs, rfl, hq, fx, fs, q⟩ := h
  cases ry
  rcases hq with hq | hq
  · obtain ⟨its, r, pl, hz⟩ := I.list hq
    refine SeqAt.notIn_listAt (eqU x) pl.isList (fun w hw => mem_eqAt rx fx r fs w (by simpa using hw)) ⟨.bl _, H, I, rfl, ?_⟩
    rw [show its.toArray.any (eqU x) = its.any (eqU x) by simp, any_eqU r fs]
    exact q
  · obtain ⟨its, r, pl, hz⟩ := I.tuple hq
    refine SeqAt.notIn_tupleAt (eqU x) pl (fun w hw => mem_eqAt rx fx r fs w (by simpa using hw)) ⟨.bl _, H, I, rfl, ?_⟩
    rw [show its.toArray.any (eqU x) = its.any (eqU x) by simp, any_eqU r fs]
    exact q
theorem call_len_seq : CallR X (.builtin "len") (fun xs H Q => ∃ p ys, xs = [.ref p] ∧ (SqL X.K H p ys ∨ SqT X.K H p ys) ∧ Q (.int ys.length) H) := by
  intro pins s σ H xs us Q I r h
  obtain ⟨p, ys, rfl, hq, q⟩ := h
  obtain ⟨u, rfl, rx⟩ := vals1 r
  cases rx
  have hn := line63
  rcases hq with hq | hq
  · obtain ⟨its, r', pl, hz⟩ := I.list hq
    have hlen := r'.length
    exact Calls.call_len_list pl.isList (by simp only [List.size_toArray] <;> omega) ⟨.int ys.length, H, I.tok _, ⟨s.toks + 1, by rw [List.size_toArray, hlen]⟩, q⟩
  · obtain ⟨its, r', pl, hz⟩ := I.tuple hq
    have hlen := r'.length
    exact len_tuple pl (by simp only [List.size_toArray] <;> omega) ⟨.int ys.length, H, I.tok _, ⟨s.toks + 1, by rw [List.size_toArray, hlen]⟩, q⟩
theorem call_list_of : CallR X (.type "list") (fun xs H Q => ∃ p ys, xs = [.ref p] ∧ (SqL X.K H p ys ∨ SqT X.K H p ys) ∧ ∀ l, H l = none → Q (.ref l) (upd H l (.lst ys))) := by
  intro pins s σ H xs us Q I r h
  obtain ⟨p, ys, rfl, hq, q⟩ := h
  obtain ⟨u, rfl, rx⟩ := vals1 r
  cases rx
  have fin : ∀ (its : List Value), Vals ys its → ys.length ≤ sizeLine → ∀ (h' : Heap) (c' : Nat), (∀ b o', s.heap.get? b = some o' → h'.get? b = some o') →
      h'.get? s.heap.objs.size = some { cls := .type "list", dict := none, data := .seq its.toArray c', slots := #[] } → EP X pins σ Q (.ref s.heap.objs.size) { s with heap := h' } := fun its r' hz h' c' kp e =>
    ⟨.ref s.heap.objs.size, _, I.laid (t' := s.toks) kp (Nat.le_refl _) (show ObjOk X.prog X.w _ h' _ (.lst ys) from ⟨hz, its, c', r', e⟩), rfl, q _ (I.hok.fresh (Nat.le_refl _))⟩
  rcases hq with hq | hq
  · obtain ⟨its, r', pl, hz⟩ := I.list hq
    have hlen := r'.length
    obtain ⟨o, ho, hc, n, hd⟩ := pl.isList
    exact call_list_seq p (.inl rfl) ho hc hd (fun h' c' kp e => fin its r' hz h' c' kp e) (by simp only [List.size_toArray] <;> omega)
  · obtain ⟨its, r', pl, hz⟩ := I.tuple hq
    have hlen := r'.length
    obtain ⟨o, ho, hc, n, hd⟩ := pl
    exact call_list_seq p (.inr rfl) ho hc hd (fun h' c' kp e => fin its r' hz h' c' kp e) (by simp only [List.size_toArray] <;> omega)
theorem call_tuple_of : CallR X (.type "tuple") (fun xs H Q => ∃ p ys, xs = [.ref p] ∧ ((SqL X.K H p ys ∧ ∀ l, H l = none → Q (.ref l) (upd H l (.tup ys))) ∨ (SqT X.K H p ys ∧ Q (.ref p) H))) := by
  intro pins s σ H xs us Q I r h
  obtain ⟨p, ys, rfl, h⟩ := h
  obtain ⟨u, rfl, rx⟩ := vals1 r
  cases rx
  rcases h with ⟨hq, q⟩ | ⟨hq, q⟩
  · obtain ⟨its, r', pl, hz⟩ := I.list hq
    have hlen := r'.length
    refine call_tuple_list pl.isList (fun h' kp => ?_) (by simp only [List.size_toArray] <;> omega)
    have I1 : Inv X pins σ H { s with heap := h' } := I.kept (t' := s.toks) kp
    have I2 : Inv X pins σ (upd H h'.objs.size (.tup ys)) { s with heap := h'.push { cls := .type "tuple", data := .seq its.toArray } } :=
      I1.laid (t' := s.toks) (fun b o e => Heap.get?_push_of_some _ e) (Nat.le_refl _) (show ObjOk X.prog X.w _ _ _ (.tup ys) from ⟨hz, its, r', TupX.new _ _⟩)
    exact ⟨.ref h'.objs.size, _, I2, rfl, q _ (I1.hok.fresh (Nat.le_refl _))⟩
  · obtain ⟨its, r', pl, hz⟩ := I.tuple hq
    exact call_tuple_same pl ⟨.ref p, H, I, rfl, q⟩
def tyV (K : PySem.W.Frag) (T : String) (x : V) (H : Hp) : Prop := match x with
  | .str _ => T = "str"
  | .int _ => T = "int"
  | .ref p => (T = "list" ∧ ∃ xs, SqL K H p xs) ∨ (T = "tuple" ∧ ∃ o, K.lookup p = some o ∧ o.cls = .type "tuple" ∧ o.dict = none) ∨
      (T = "dict" ∧ ((∃ kvs, H p = some (.dK kvs)) ∨ ∃ kvs, H p = some (.dT kvs))) ∨ (T = "set" ∧ ∃ S n, H p = some (.set S n))
  | _ => False
theorem tyV_is {pins : List (Addr × Obj)} {σ : St} {H : Hp} {s : Shared} {T : String} {x : V} {v : Value} (I : Inv X pins σ H s) (r : RelV x v) (ty : tyV X.K T x H) :
    s.TypeIs v T ∧ ∀ a, v = .ref a → ∃ ob, s.heap.get? a = some ob ∧ ob.dict = none := by
  cases x with
  | str z =>
    obtain ⟨t, rfl⟩ := r
    cases (show T = "str" from ty)
    exact ⟨typeIs_str s z t, fun _ e => nomatch e⟩
  | int i =>
    obtain ⟨t, rfl⟩ := r
    cases (show T = "int" from ty)
    exact ⟨typeIs_int s i t, fun _ e => nomatch e⟩
  | ref p =>
    cases r
    rcases ty with ⟨rfl, xs, hq⟩ | ⟨rfl, o, hk, hc, hd⟩ | ⟨rfl, hk⟩ | ⟨rfl, S, n, hk⟩
    · obtain ⟨its, _, pl, _⟩ := I.list hq
      refine ⟨pl.isList.typeIs, fun a e => ?_⟩
      cases e
      obtain ⟨o, n, e, c, hd, _⟩ := pl
      exact ⟨o, e, hd⟩
    · refine ⟨⟨o, I.kIn p o hk, hc⟩, fun a e => ?_⟩
      cases e
      exact ⟨o, I.kIn _ o hk, hd⟩
    · have z : ∃ o, s.heap.get? p = some o ∧ o.ExactDict := by
        rcases hk with ⟨kvs, hk⟩ | ⟨kvs, hk⟩
        · obtain ⟨_, _, _, _, o, _, _, e, ex, _⟩ := I.hok p _ hk
          exact ⟨o, e, ex⟩
        · obtain ⟨_, _, _, _, o, _, _, e, ex, _⟩ := I.hok p _ hk
          exact ⟨o, e, ex⟩
      obtain ⟨o, e, ex⟩ := z
      refine ⟨⟨o, e, ex.1⟩, fun a e2 => ?_⟩
      cases e2
      exact ⟨o, e, ex.2.1⟩
    · obtain ⟨o, _, _, _, e, ex, _⟩ := I.hok p _ hk
      refine ⟨⟨o, e, ex.1⟩, fun a e2 => ?_⟩
      cases e2
      exact ⟨o, e, ex.2.1⟩
  | _ => exact False.elim ty
def tBM (K : PySem.W.Frag) (T : String) (r : V → List V → Hp → VK → Prop) (to : TE) (t : TA) : TE := fun σ H Q => to σ H fun x H1 => tyV K T x H1 ∧ t σ H1 fun xs H2 => r x xs H2 Q
variable {o e : Expr} {es : List Expr} {to : TE} {t : TA} {name : Str} {apos cpos : Pos} {T id : String} {r : V → List V → Hp → VK → Prop}
theorem pe_bm (pa : PlainAttrs T) (slot : Slot T name id) (hty : typeOf (.builtin id) = pure (.type "method_descriptor")) (hm : MtR X id r) (ho : PE X o to) (ha : PA X (e :: es) t)
    (hbase : attributeBase o name X.env (eval o X.env) = eval o X.env := by rfl)
    (hfew : ((backTo cpos (starEach (e :: es) X.env)).all (fun x => !x.1) && (backToKw cpos (keywordEach [] X.env)).all (fun x => x.1.isSome)
      && decide ((e :: es).length + ([] : List Keyword).length + (if ([] : List Keyword).isEmpty then 0 else 1) < 30)) = true := by rfl)
    (hline : (apos.endLine == cpos.line) = true := by rfl) (hs : starEach (e :: es) X.env = (false, eval e X.env) :: starEach es X.env := by rfl) (hplain : (backTo cpos (starEach es X.env)).any (·.1) = false := by rfl) :
    PE X (.Call (.Attribute o name apos) (e :: es) [] cpos) (tBM X.K T r to t) := by
  intro pins s σ H Q I h
  refine wpAny_Call_method_late hbase hfew hline rfl (thn (ho pins s σ H _ I h) fun v s1 ⟨x, H1, I1, r1, ty, q1⟩ => ?_)
  obtain ⟨h1, h2⟩ := tyV_is I1 r1 ty
  refine ⟨T, id, pa, slot, hty, h1, h2, ?_⟩
  have hA := ha cpos pins s1 σ H1 _ I1 q1
  rw [hs] at hA ⊢
  refine Calls.callWith_builtin (by show (false || (backTo cpos (starEach es X.env)).any (·.1)) = false; rw [hplain] <;> rfl) (Calls.evalArgs_plain ?_)
  exact thn hA fun us s2 ⟨vs, H2, I2, r2, q2⟩ => hm pins s2 σ H2 x vs v us Q I2 r1 r2 q2
/- xs.append(e), list.index on a module's tuple .. are MtR facts of 06m -/
end
end L2

namespace L2
open PySem PySem.Spec PyProof.Rows

def MtM (X : Cx) (id : String) (r : V → List V → Hp → VK → Prop) : Prop :=
  ∀ (pins : List (Addr × Obj)) (s : Shared) (σ : St) (H : Hp) (x : V) (xs : List V) (v : Value) (us : List Value) (Q : VK), Inv X pins σ H s → RelV x v → Vals xs us → r x xs H Q →
    wpAny (model X.prog X.w) X.A (call (.builtin id) (v :: us)) (EP X pins σ Q) X.xe s
theorem Vals.one : ∀ {x : V} {us : List Value}, Vals [x] us → ∃ u, us = [u] ∧ RelV x u
  | _, _, .cons r .nil => ⟨_, rfl, r⟩
theorem Vals.two : ∀ {x y : V} {us : List Value}, Vals [x, y] us → ∃ u v, us = [u, v] ∧ RelV x u ∧ RelV y v
  | _, _, _, .cons r (.cons q .nil) => ⟨_, _, rfl, r, q⟩
theorem Vals.eraseIdx : ∀ {xs : List V} {us : List Value} (i : Nat), Vals xs us → Vals (xs.eraseIdx i) (us.eraseIdx i)
  | _, _, _, .nil => .nil
  | _, _, 0, .cons _ t => t
  | _, _, i + 1, .cons r t => .cons r (Vals.eraseIdx i t)
theorem len_erase {α : Type} : ∀ (l : List α) (i : Nat), (l.eraseIdx i).length ≤ l.length
  | [], _ => Nat.le_refl _
  | _ :: _, 0 => Nat.le_succ _
  | _ :: r, i + 1 => Nat.succ_le_succ (len_erase r i)
section
variable {X : Cx} {pins : List (Addr × Obj)} {σ : St} {H : Hp} {s : Shared} {l b : Addr} {xs ys zs : List V}
theorem Inv.lset {its its' : List Value} {n : Nat} {f : Array Value → Array Value} {t' : Nat} (I : Inv X pins σ H s) (hH : H l = some (.lst xs))
    (e : s.heap.get? l = some { cls := .type "list", data := .seq its.toArray n }) (hf : f its.toArray = its'.toArray) (hv : Vals ys its') (hz : ys.length ≤ sizeLine) :
    Inv X pins σ (upd H l (.lst ys)) { s with heap := s.heap.update l (Obj.mapSeq f), toks := t' } := by
  have q := PySem.IsL.update e f
  rw [hf] at q
  refine I.write (x := l) (e := l) (by rw [hH]; exact trivial) (.inl rfl) (fun b' u hb hu => (Heap.get?_update_other s.heap (Obj.mapSeq f) (Ne.symm hb)).trans hu) ⟨_, q⟩ ?_
  exact ⟨hz, its', _, hv, q⟩
theorem Inv.lnew {its : List Value} {t' : Nat} (I : Inv X pins σ H s) (hv : Vals ys its) (hz : ys.length ≤ sizeLine) :
    Inv X pins σ (upd H s.heap.objs.size (.lst ys)) { s with heap := s.heap.push { cls := .type "list", data := .seq its.toArray }, toks := t' } :=
  I.laid (fun _ _ q => Heap.get?_push_of_some _ q) (Nat.le_refl _) ⟨hz, its, 0, hv, Heap.get?_push_size _ rfl⟩
theorem Inv.lstM (I : Inv X pins σ H s) (hH : H l = some (.lst xs)) : xs.length ≤ sizeLine ∧ ∃ (its : List Value) (n : Nat), Vals xs its ∧ xs.length = its.length ∧ s.heap.get? l = some { cls := .type "list", data := .seq its.toArray n } := by
  obtain ⟨z, its, n, r, e⟩ := I.hok l _ hH
  exact ⟨z, its, n, r, r.length, e⟩

end

section
variable {X : Cx}
def rAppend : V → List V → Hp → VK → Prop := fun x vs H Q => ∃ l xs y, x = .ref l ∧ vs = [y] ∧ H l = some (.lst xs) ∧ xs.length < sizeLine ∧ Q .non (upd H l (.lst (xs ++ [y])))
theorem mt_append : MtM X "list.append" rAppend := by
  intro pins s σ H x vs v us Q I rx rv h
  obtain ⟨l, xs, y, rfl, rfl, hH, hz, q⟩ := h
  cases rx
  obtain ⟨u, rfl, ru⟩ := rv.one
  obtain ⟨z, its, n, r, hl, e⟩ := I.lstM hH
  refine call_meets F.slot_list_append ⟨_, e, rfl⟩ F.entry_list_append (F.args_list_append_2 _ _) (PySem.list_append l its.toArray n u (by rw [List.size_toArray]; omega)) ⟨e, ?_⟩
  refine ⟨.non, _, I.lset (its' := its ++ [u]) hH e (by simp) (r.append (.cons ru .nil)) ?_, rfl, q⟩
  rw [List.length_append, List.length_singleton]
  omega

def rPopAt : V → List V → Hp → VK → Prop := fun x vs H Q => ∃ l xs i k y, x = .ref l ∧ vs = [.int i] ∧ H l = some (.lst xs) ∧ -(2 ^ 63) ≤ i ∧ i < 2 ^ 63 ∧ seqIndex? i xs.length = some k ∧ xs[k]? = some y ∧ Q y (upd H l (.lst (xs.eraseIdx k)))
theorem mt_popAt : MtM X "list.pop" rPopAt := by
  intro pins s σ H x vs v us Q I rx rv h
  obtain ⟨l, xs, i, k, y, rfl, rfl, hH, h1, h2, hk, hy, q⟩ := h
  cases rx
  obtain ⟨u, rfl, ru⟩ := rv.one
  obtain ⟨t, rfl⟩ := ru
  obtain ⟨z, its, n, r, hl, e⟩ := I.lstM hH
  obtain ⟨w, hw, rw'⟩ := r.get hy
  refine call_meets F.slot_list_pop ⟨_, e, rfl⟩ F.entry_list_pop (F.args_list_pop_2 _ _)
    (MeetsSeq.list_pop_at l its.toArray n i t k w (fitsIndex_both h1 h2) (by rw [List.size_toArray, ← hl]; exact hk) (by rw [← Array.getElem?_toList]; exact hw) (by rw [List.size_toArray]; omega)) ⟨e, ?_⟩
  refine ⟨y, _, I.lset (its' := its.eraseIdx k) hH e ?_ (r.eraseIdx k) ?_, rw', q⟩
  · show its.toArray.eraseIdxIfInBounds k = (its.eraseIdx k).toArray
    rw [List.eraseIdxIfInBounds_toArray]
  · have := len_erase xs k
    omega
end
section
variable {prog : Program} {w : World} {A : Around} {E : Value → Shared → Prop} {s : Shared}
end

section
variable {X : Cx}
end
end L2

namespace Att
open PySem PySem.W PySem.Calls PyProof.Rows
theorem ints_of_wellAll {P : Params} {h : Heap} : ∀ (ns : List Int) (vs : List Value), WellAll P h vs (ns.map WData.int) → IntsAre vs ns := by
  intro ns
  induction ns with
  | nil =>
    intro vs w
    rw [List.map_nil] at w
    cases w
    exact .nil
  | cons n ns ih =>
    intro vs w
    rw [List.map_cons] at w
    cases w with
    | cons a b =>
      cases a
      exact .cons _ _ (ih _ b)

theorem script_of {l : OpenLaw} {n : Nat} (hn : l.most = some n) {P : Params} {h : Heap} {args : List WData} {vals : List Value}
    (hpre : l.row.toRowW.claim.pre args = true) (hwl : WellAll P h vals args) :
    ∃ a vs ns, vals = [Value.ref a] ∧ args = [WData.list (ns.map WData.int)] ∧ h.get? a = some { cls := .type "list", data := .seq vs.toArray } ∧ IntsAre vs ns ∧ ns.length ≤ n := by
  have hsh : WShape.hasAll [] args [.list .int] = true := (pre_splitW hpre).1
  have hc : l.pre.holds [] { args := args } = true := (pre_splitW hpre).2
  obtain ⟨d, r, rfl, h1, h2⟩ := hasAllW_cons hsh
  obtain rfl := hasAllW_nil h2
  obtain ⟨xs, rfl, h3⟩ := hasW_list h1
  obtain ⟨ns, rfl⟩ := items_int h3
  have hlen : ns.length ≤ n := by
    unfold OpenLaw.pre at hc
    have h4 : (WTm.not (.lt (.lit (.int (n : Int))) (.len (.arg 0)))).holds [] { args := [.list (ns.map .int)] } = true := by
      have h4 := (holds_andW hc).1
      rw [hn] at h4
      exact h4
    have h5 := condW_of h4 (w_not (w_lt w_lit (w_len_list (w_arg rfl))))
    rw [List.length_map] at h5
    refine Nat.le_of_not_lt fun q => ?_
    have q' : (n : Int) < ((ns.length : Nat) : Int) := by omega
    first
      | (rw [decide_eq_true q'] at h5; exact absurd h5 (by decide))
      | (simp at h5; omega)
  cases hwl with
  | cons w1 w2 =>
    cases w2
    cases w1 with
    | list ho hall => exact ⟨_, _, ns, rfl, rfl, ho, ints_of_wellAll ns _ hall, hlen⟩

theorem post_true (l : OpenLaw) (args : List WData) : l.row.toRowW.claim.post args (.bool true) args = true :=
  postW_of (r := l.row.toRowW) (X := (true == true))
    (show WShape.has [] (.bool true) .bool = true by first | rfl | decide | simp [WShape.has, WShape.arms, WShape.armsAll])
    (show (WTm.eq .res (.lit (.bool true))).value [] { args := args, res := some (.bool true), after := args } = some (.bool (true == true)) from w_eq_bool (w_res rfl) w_lit) rfl
theorem attach_call {l : OpenLaw} {n : Nat} {q : Program} {loose : List Str} {XP : (Str → Option Value) → Heap → Prop} {YP : World → Heap → Prop} {d : DefRec}
    (hn : l.most = some n) (hdf : d.params.defaults = [])
    (call : ∀ (w : World) (s₀ s₁ : Shared) (mg mb : Str → Option Value) (fa : Addr) (o : Obj) (pm cd doc : Value) (a : Addr) (vs : List Value) (ns : List Int),
      Ground q loose [] XP w s₀ mg mb s₁.heap → YP w s₁.heap →
      s₁.heap.get? fa = some o → o.data = .func (docDef d.name d.params d.body d.scope pm cd doc) → s₁.heap.CodeRec cd d.name → mg d.name = some (.ref fa) →
      s₁.heap.get? a = some { cls := .type "list", data := .seq vs.toArray } → IntsAre vs ns → ns.length ≤ n → s₁.gens = #[] →
      codeAny (model l.prog w) callerA (.call (.ref fa) ⟨[.ref a], []⟩) (fun r s' => r = .ok (.ret (.bool true)) ∧ OldK s₁.heap s'.heap ∧ s'.os = s₁.os ∧ AllBare s'.gens) s₁) :
    WalkO q loose XP YP l.row.toRowW d [] (fun f vs => PySem.call f vs) := by
  intro w s₀ s₁ mg mb G Y fa o pm cd doc dV kV ho hd hcd hD hmg hg args vals as hpre hlay hrd hwl hlo
  obtain rfl : dV = .none := Dflts.none hD hdf
  obtain rfl : kV = .none := Dflts.noKw hD
  obtain ⟨a, vs, ns, rfl, rfl, hobj, hints, hlen⟩ := script_of hn hpre hwl
  refine enter_call (codeAny_mono (call w s₀ s₁ mg mb fa o pm cd doc a vs ns G Y ho (fd_plain hd) hcd hmg hobj hints hlen hg) fun r s' hq => ?_)
  obtain ⟨rfl, h2, h3, h4⟩ := hq
  exact ⟨.inl ⟨.bool true, .bool true, [], rfl, fun _ => rfl, .bool true, post_true l _, fun _ => ⟨List.Pairwise.nil, fun _ hm => (nomatch hm)⟩⟩, h2, h3, h4⟩
section
variable {prog : Program} {w : World} {A : Around} {E : Value → Shared → Prop} {s : Shared} {K : Frag}
def ledger (h : Heap) (L d : Addr) : List (Addr × Obj) := (List.range h.objs.size).filterMap fun a => if a = L ∨ a = d then none else (h.get? a).map fun o => (a, o)
end
end Att

namespace L2
open PySem PySem.Spec PyProof.Rows

theorem vals_ints : ∀ {vs : List Value} {ns : List Int}, IntsAre vs ns → Vals (ns.map V.int) vs
  | _, _, .nil => .nil
  | _, _, .cons n t h => .cons ⟨t, rfl⟩ (vals_ints h)
def Only (H : Hp) : Prop := ∀ b, H b = none ∨ ∃ o xs, H b = some (.frz o (.lst xs))
theorem law_call {P : Program} {w : World} {K : PySem.W.Frag} {mg mb : Str → Option Value} {CX : CXT} {k : Nat} {fa a : Addr} {fd : FuncData} {x : Str} {sp : Sp} {s₁ : Shared} {vs : List Value} {ns : List Int}
    (KX : K.In s₁.heap) (hns : s₁.heap.Ns mainGlobals mg) (hb : s₁.heap.Ns builtinsNs mb) (hbb : ∀ x : Str, x ≠ "__name__" → mb x = bootBuiltins x) (hlim : s₁.heap.NoLimit) (hg : s₁.gens = #[])
    (ha : s₁.heap.get? a = some { cls := .type "list", data := .seq vs.toArray }) (hi : IntsAre vs ns) (hl : ns.length ≤ sizeLine) (hr : Room k callerA)
    (F : ∀ base : Heap, K.In base → base.Ns mainGlobals mg → FnOk P w K mg base CX k fa fd [x] sp) (hbind : ∀ (s : Shared) (u : Value), BindsTo s fd ⟨[u], []⟩ [(x, u)])
    (hsp : ∀ H : Hp, Only H → SqL K H a (ns.map V.int) → sp [.ref a] H (fun v _ => v = .bl true) fun _ _ _ => False)
    (hCX : ∀ H e s', CX [] H s₁ (fun _ _ _ => False) e s' → False) :
    codeAny (model P w) callerA (.call (.ref fa) ⟨[.ref a], []⟩) (fun r s' => r = .ok (.ret (.bool true)) ∧ OldK s₁.heap s'.heap ∧ s'.os = s₁.os ∧ AllBare s'.gens) s₁ := by
  have rv := vals_ints hi
  have lenV := hi.length
  have core : ∀ H : Hp, Only H → SqL K H a (ns.map V.int) → HOk P w H s₁.heap → (∀ b, H b ≠ none → b = a) → (H a ≠ none → K.lookup a = none) →
      codeAny (model P w) callerA (.call (.ref fa) ⟨[.ref a], []⟩) (fun r s' => r = .ok (.ret (.bool true)) ∧ OldK s₁.heap s'.heap ∧ s'.os = s₁.os ∧ AllBare s'.gens) s₁ := by
    intro H hO hS hok hA hK
    have base_of : ∀ {b : Addr} {o : Obj}, s₁.heap.get? b = some o → H b = none → (hidT s₁.heap H).get? b = some o := fun e n => hidT_get e n
    have noA : ∀ {b : Addr} {o : Obj} {es : Array DictEntry} {ep : Nat}, s₁.heap.get? b = some o → o.data = .dict es ep → H b = none := fun {b o es ep} e d => by
      cases q : H b with
      | none => rfl
      | some u =>
        have e' : b = a := hA b (by rw [q]; simp)
        subst e'
        rw [ha] at e; cases e
        have d' : Data.seq vs.toArray _ = Data.dict es ep := d
        cases d'
    have nsK : ∀ {b : Addr} {m : Str → Option Value}, s₁.heap.Ns b m → (hidT s₁.heap H).Ns b m := fun {b m} ⟨o, es, ep, e, d, r⟩ => ⟨o, es, ep, base_of e (noA e d), d, r⟩
    have hKb : K.In (hidT s₁.heap H) := fun b o e => base_of (KX b o e) (by
      cases q : H b with
      | none => rfl
      | some u =>
        have e' : b = a := hA b (by rw [q]; simp)
        subst e'
        rw [hK (by rw [q]; simp)] at e; cases e)
    have hM : Mod K mg (hidT s₁.heap H) := ⟨hKb, nsK hns, ⟨mb, nsK hb, hbb⟩, let ⟨mc, h1, h2⟩ := hlim; ⟨mc, nsK h1, h2⟩⟩
    have e0 : Env0 P w K mg (hidT s₁.heap H) callerA [] s₁ H := ⟨rfl, hM, fun b o e => of_hidT e, Nat.le_of_eq (hidT_size _ _), trivial, fun b hb => absurd (show b ∈ ([] : List Addr) from hb) (by simp), hok, .of_eq hg⟩
    refine codeAny_mono ((F _ hKb (nsK hns)).run callerA [] s₁ H ⟨[.ref a], []⟩ [.ref a] [.ref a] _ _ hr e0 (hbind s₁ (.ref a)) (.cons rfl .nil) (hsp H hO hS)) fun r s' h => ?_
    cases r with
    | error e => exact (hCX H e s' h).elim
    | ok fl =>
      cases fl with
      | next => exact False.elim h
      | brk => exact False.elim h
      | cont => exact False.elim h
      | ret u =>
        obtain ⟨v, H', os, bare, un, hok', r', q⟩ := h
        have q' : v = .bl true := q
        subst q'
        obtain rfl : u = Value.bool true := r'
        refine ⟨rfl, OldK.of_keep fun b o e => ?_, os, bare⟩
        cases q : H b with
        | none => exact un.keep b o e q (by intro z; exact absurd (show b ∈ ([] : List Addr) from z) (by simp)) (by simp)
        | some u =>
          rcases hO b with z | ⟨ob, xs, z⟩
          · rw [q] at z; cases z
          · have z2 := un.frzs b ob _ z
            obtain ⟨e1, _⟩ := hok b _ z
            obtain ⟨e2, _⟩ := hok' b _ z2
            rw [e] at e1; cases e1
            exact e2
  cases hk : K.lookup a with
  | some o =>
    have e := KX a o hk
    rw [ha] at e
    cases e
    refine core (fun _ => none) (fun _ => .inl rfl) (.inr ⟨_, vs.toArray, _, hk, rfl, rfl, rfl, by rw [List.size_toArray, lenV]; exact hl, by simpa using rv⟩) (fun b u z => by have z' : (none : Option HO) = some u := z; cases z') (fun b z => absurd rfl z) fun z => absurd rfl z
  | none =>
    refine core (fun b => if b = a then some (.frz { cls := .type "list", data := .seq vs.toArray } (.lst (ns.map V.int))) else none) (fun b => ?_) (.inl (.inr ⟨{ cls := .type "list", data := .seq vs.toArray }, if_pos rfl⟩)) (fun b u z => ?_) (fun b z => ?_) fun _ => hk
    · by_cases hb : b = a
      · exact .inr ⟨_, _, if_pos hb⟩
      · exact .inl (if_neg hb)
    · by_cases hb : b = a
      · have z' := (if_pos hb).symm.trans z
        cases z'
        subst hb
        exact ⟨ha, by rw [List.length_map]; exact hl, vs, _, rv, ha⟩
      · have z' := (if_neg hb).symm.trans z
        cases z'
    · by_cases hb : b = a
      · exact hb
      · exact absurd (if_neg hb) z
end L2

namespace L2
open PySem PySem.Spec PyProof.Rows

abbrev KOf {K : PySem.W.Frag} {h : Heap} (_ : K.In h) : PySem.W.Frag := K
theorem walk_of {l : PySem.W.OpenLaw} {n k : Nat} {q : Program} {loose : List Str} {XP : (Str → Option Value) → Heap → Prop} {YP : World → Heap → Prop} {d : DefRec} {K : Params → PySem.W.Frag} {CX : World → CXT} {sp : World → Sp} {x : Str}
    (hn : l.most = some n) (hn2 : n ≤ sizeLine) (hdf : d.params.defaults = []) (hr : Room k callerA)
    (hY : ∀ (w : World) (h : Heap), YP w h → (K w.params).In h)
    (F : ∀ (w : World) (mg : Str → Option Value) (fa : Addr) (h : Heap), (K w.params).In h → h.Ns mainGlobals mg → mg d.name = some (.ref fa) →
      ∃ fd : FuncData, (∀ (s : Shared) (u : Value), BindsTo s fd ⟨[u], []⟩ [(x, u)]) ∧
        ∀ base : Heap, (K w.params).In base → base.Ns mainGlobals mg → FnOk l.prog w (K w.params) mg base (CX w) k fa fd [x] (sp w))
    (hsp : ∀ (w : World) (H : Hp) (a : Addr) (ns : List Int), ns.length ≤ n → Only H → SqL (K w.params) H a (ns.map V.int) → sp w [.ref a] H (fun v _ => v = .bl true) fun _ _ _ => False)
    (hCX : ∀ (w : World) (H : Hp) (s : Shared) (e : Value) (s' : Shared), CX w [] H s (fun _ _ _ => False) e s' → False) :
    PySem.W.WalkO q loose XP YP l.row.toRowW d [] (fun f vs => PySem.call f vs) := by
  refine Att.attach_call hn hdf fun w s₀ s₁ mg mb fa o pm cd doc a vs ns G Y ho hd hcd hmg hobj hints hlen hg => ?_
  have KX := hY w _ Y
  obtain ⟨fd, hb, hF⟩ := F w mg fa _ KX G.T.g hmg
  exact law_call KX G.T.g G.T.b G.T.builtins G.T.nolimit hg hobj hints (Nat.le_trans hlen hn2) hr hF hb (fun H hO hS => hsp w H a ns hlen hO hS) fun H e s' => hCX w H s₁ e s'
theorem walk_ofK {l : PySem.W.OpenLaw} {n k : Nat} {q : Program} {loose : List Str} {XP : (Str → Option Value) → Heap → Prop} {YP : World → Heap → Prop} {d : DefRec} {K : Params → PySem.W.Frag} {CX : CXT} {sp : PySem.W.Frag → Sp} {x : Str}
    (hn : l.most = some n) (hn2 : n ≤ sizeLine) (hdf : d.params.defaults = []) (hr : Room k callerA)
    (hY : ∀ (w : World) (h : Heap), YP w h → (K w.params).In h)
    (F : ∀ (w : World) (mg : Str → Option Value) (fa : Addr) (h : Heap), (K w.params).In h → h.Ns mainGlobals mg → mg d.name = some (.ref fa) →
      ∃ fd : FuncData, (∀ (s : Shared) (u : Value), BindsTo s fd ⟨[u], []⟩ [(x, u)]) ∧
        ∀ base : Heap, (K w.params).In base → base.Ns mainGlobals mg → FnOk l.prog w (K w.params) mg base CX k fa fd [x] (sp (K w.params)))
    (hsp : ∀ (K : PySem.W.Frag) (H : Hp) (a : Addr) (ns : List Int), ns.length ≤ n → Only H → SqL K H a (ns.map V.int) → sp K [.ref a] H (fun v _ => v = .bl true) fun _ _ _ => False)
    (hCX : ∀ (H : Hp) (s : Shared) (e : Value) (s' : Shared), CX [] H s (fun _ _ _ => False) e s' → False) :
    PySem.W.WalkO q loose XP YP l.row.toRowW d [] (fun f vs => PySem.call f vs) :=
  walk_of (K := K) (CX := fun _ => CX) (sp := fun w => sp (K w.params)) hn hn2 hdf hr hY F (fun w H a ns h1 h2 h3 => hsp (K w.params) H a ns h1 h2 h3) fun _ H s e s' => hCX H s e s'
end L2

/- THE LAST THEOREM (shape; LID, My.* are yours):
   My.Adr: a structure of the addresses that your layer names (classes, functions); My.Txt K t: a structure (Prop) of the equations over K;
   My.txt_mk : {K} {implicit addresses ..} (e1 : nsIn K mainGlobals "law" = some (some (.ref f))) (e2 : K.lookup f = some ⟨oc, od, .func (fnOf "law" "law" params body scope dV kV doc pm an cdv ct), sl⟩) (e3 : codeIn K cdv "law" = true) .. : ∃ t, My.Txt K t

set_option maxRecDepth 100000 in
set_option maxHeartbeats 0 in
theorem PySem.Challenge.cw_LID_holds : PySem.Challenge.rw_LID.Holds := by
  w_on; o_law; k_head; (case hw => w_witness2)
  k_fill
  refine L2.walk_of (l := PySem.Challenge.rw_LID) (n := 63) (k := 40) (x := "script") (CX := fun w => ..) (sp := fun _ => My.sp_law) rfl (by decide) rfl ⟨rfl, by decide, by decide⟩ (fun w h Y => PySem.W.kIn_of Y) ?F ?S ?C
  case F =>
    intro w mg fa h KX G hmg
    have T : ∃ t, My.Txt (L2.KOf KX) t := by
      dsimp only [L2.KOf]                          -- K must stand as «<heap const> w.params» for k_is
      refine' My.txt_mk ?e1 ?e2 ?e3 ..
      (case e1 => PySem.W.k_is)                    -- in the order: a name -> its address -> its object -> its parts
      (case e2 => PySem.W.k_is)
      ..
    obtain ⟨t, T⟩ := T
    have e0 := hmg.symm.trans (PySem.W.mg_of KX G T.law)
    cases e0                                       -- fa is the law's own address
    exact ⟨_, fun s u => .of_eq rfl, fun base kb nb => My.law_fn T kb nb⟩     -- if «.of_eq rfl» comes too early: refine' ⟨_, ?b, fun base kb nb => My.law_fn T kb nb⟩; exact fun s u => .of_eq rfl
  case S => exact fun w H a ns hl hO hS => ..
  case C => exact ..
(the tactic k_is has no namespace: write k_is) -/
namespace L2
open PySem PySem.Spec PyProof.Rows
def defArgs (s : Stmt) : Arguments := match s with
  | .FunctionDef _ a _ _ _ _ _ _ _ _ => a
  | _ => { posonlyargs := [], args := [], vararg := none, kwonlyargs := [], kw_defaults := [], kwarg := none, defaults := [] }
def defBody (s : Stmt) : List Stmt := match s with
  | .FunctionDef _ _ b _ _ _ _ _ _ _ => b
  | _ => []
def defScope (s : Stmt) : Scope := match s with
  | .FunctionDef _ _ _ _ _ _ sc _ _ _ => sc
  | _ => { kind := .function, names := [], isGenerator := false, isCoroutine := false }
abbrev CX0 : CXT := fun _ _ _ _ _ _ => False
abbrev E0 : XK := fun _ _ _ => False
theorem pass0 {X : Cx} : Passes CX0 X E0 := fun _ _ _ _ _ _ _ h => h.elim
structure Fun (K : PySem.W.Frag) (x qual : Str) (st : Stmt) (f : Addr) (fd : FuncData) : Prop where
  ex : ∃ (oc : Value) (od : Option Addr) (kV doc pm : Value) (an : Option Addr) (cdv ct : Value) (osl : Array (Option Value)),
    fd = PySem.W.fnOf x qual (defArgs st) (defBody st) (defScope st) .none kV doc pm an cdv ct ∧ K.lookup f = some ⟨oc, od, .func fd, osl⟩ ∧ PySem.W.codeIn K cdv qual = true
  kp : PySem.W.keepIn K (.ref f) = true
section
variable {P : Program} {w : World} {K : PySem.W.Frag} {mg : Str → Option Value} {base : Heap}
theorem Fun.ok {x qual : Str} {st : Stmt} {f : Addr} {fd : FuncData} {N ps : List Str} {k : Nat} {sp : Sp} (F : Fun K x qual st f fd) (S : FnScope N ps (defScope st)) (len : ∀ vs H Q E, sp vs H Q E → vs.length = ps.length)
    (hbody : ∀ (cdv : Value) (A : Around) (outer : List Env) (s : Shared) (H : Hp) (vs : List V) (Q : VK) (E : XK), Room k (A.deeper (envOfC qual (defScope st) s.heap.objs.size f cdv)) → sp vs H Q E →
      ∃ t, PSs (cxOf CX0 P w K mg base N qual (defScope st) f cdv A outer s H E).nox (defBody st) t ∧ t { nx := fun _ H' => Q .non H', rt := Q } (start N vs) H) : FnOk P w K mg base CX0 (k + 1) f fd ps sp := by
  obtain ⟨oc, od, kV, doc, pm, an, cdv, ct, osl, rfl, lk, hcd⟩ := F.ex
  refine fn_of lk hcd S len fun A outer s H vs Q E hr hsp => ?_
  obtain ⟨t, h, q⟩ := hbody cdv A outer s H vs Q E hr hsp
  exact ⟨t, h.nox, q⟩
theorem Fun.binds {x qual : Str} {st : Stmt} {f : Addr} {fd : FuncData} {ps : List Str} (F : Fun K x qual st f fd)
    (h : ∀ (kV doc pm : Value) (an : Option Addr) (cdv ct : Value) (us : List Value), us.length = ps.length → bindArgs (PySem.W.fnOf x qual (defArgs st) (defBody st) (defScope st) .none kV doc pm an cdv ct) ⟨us, []⟩ = pure (ps.zip us)) : Binds K fd ps [] := by
  obtain ⟨oc, od, kV, doc, pm, an, cdv, ct, osl, rfl, lk, hcd⟩ := F.ex
  exact .all (h kV doc pm an cdv ct)
theorem fun_mk {x qual : Str} {st : Stmt} {f : Addr} {oc : Value} {od an : Option Addr} {osl : Array (Option Value)} {kV doc pm cdv ct : Value} (l : K.lookup f = some ⟨oc, od, .func (PySem.W.fnOf x qual (defArgs st) (defBody st) (defScope st) .none kV doc pm an cdv ct), osl⟩)
    (c : PySem.W.codeIn K cdv qual = true) (k : PySem.W.keepIn K (.ref f) = true) : Fun K x qual st f (PySem.W.fnOf x qual (defArgs st) (defBody st) (defScope st) .none kV doc pm an cdv ct) := ⟨⟨oc, od, kV, doc, pm, an, cdv, ct, osl, rfl, l, c⟩, k⟩
end
section
variable {X : Cx}
theorem pv (i : Nat) {x : Str} {pos : Pos} (hN : X.N[i]? = some x := by rfl) (hv : Vis X.env.scope x := by first | exact Or.inl rfl | exact Or.inr (Or.inl rfl) | exact Or.inr (Or.inr rfl)) (hd : (x == ("__debug__" : Str)) = false := by decide)
    (hcd : (x == ("__classdict__" : Str)) = false := by decide) : PE X (.Name x pos) (tVar i) := pe_var hN hv hd hcd
end
theorem iteF {A B : Prop} (h : B) : if false = true then A else B := by
  rw [if_neg Bool.false_ne_true]
  exact h
theorem iteT {A B : Prop} (h : A) : if true = true then A else B := by
  rw [if_pos rfl]
  exact h
theorem ite2 {c A B : Prop} [Decidable c] (h1 : c → A) (h2 : ¬ c → B) : if c then A else B := by
  by_cases h : c
  · rw [if_pos h]
    exact h1 h
  · rw [if_neg h]
    exact h2 h
def Same (H H' : Hp) : Prop := ∀ b o, H b = some o → H' b = some o
theorem Same.refl (H : Hp) : Same H H := fun _ _ h => h
theorem Same.trans {H H1 H2 : Hp} (a : Same H H1) (b : Same H1 H2) : Same H H2 := fun c o h => b c o (a c o h)
end L2
section
set_option maxHeartbeats 4000001
namespace L2
open PySem PySem.Spec PyProof.Rows
def clOf (cells : List (Str × Addr)) : List (Str × NameKind) → List (Str × Addr) → List (Str × Addr)
  | [], cs => cs
  | (n, k) :: r, cs => if k == .free then clOf cells r ((n, (cells.lookup n).getD 0) :: cs) else clOf cells r cs
theorem clOf_run {env : Env} : ∀ (names : List (Str × NameKind)) (cs : List (Str × Addr)), (∀ y ∈ names, y.2 = .free → ∃ c, env.cells.lookup y.1 = some c) →
    (forIn names cs fun x r => match x with | (name, kind) => if (kind == NameKind.free) = true then (do let a ← cellOf env name; pure (ForInStep.yield ((name, a) :: r))) else pure (ForInStep.yield r) : Sem (List (Str × Addr))) = pure (clOf env.cells names cs)
  | [], cs, _ => rfl
  | (n, k) :: r, cs, h => by
    rw [List.forIn_cons]
    by_cases e : (k == NameKind.free) = true
    · obtain ⟨c, hc⟩ := h (n, k) List.mem_cons_self (by simpa using e)
      have hcell : cellOf env n = pure c := by
        have hc' : env.cells.lookup n = some c := hc
        unfold cellOf; rw [hc']
      simp only [e, if_true, hcell, pure_bind]
      rw [clOf_run r _ fun y hy => h y (List.mem_cons_of_mem _ hy)]
      have hc' : env.cells.lookup n = some c := hc
      show _ = pure (if (k == NameKind.free) = true then _ else _)
      rw [if_pos e, hc']
      rfl
    · have ef : (k == NameKind.free) = false := by simpa using e
      simp only [ef, Bool.false_eq_true, if_false, pure_bind]
      rw [clOf_run r _ fun y hy => h y (List.mem_cons_of_mem _ hy)]
      show _ = pure (if (k == NameKind.free) = true then _ else _)
      rw [if_neg e]
theorem closure_eq {scope : Scope} {env : Env} (h : ∀ y ∈ scope.names, y.2 = .free → ∃ c, env.cells.lookup y.1 = some c) : closureFor scope env = pure (clOf env.cells scope.names []) := by
  unfold closureFor
  show (forIn scope.names [] _ >>= fun r => pure r) = _
  rw [bind_pure]
  exact clOf_run _ _ h
theorem clOf_sub {cells : List (Str × Addr)} : ∀ (names : List (Str × NameKind)) (cs : List (Str × Addr)) (x : Str) (c : Addr), (∀ y ∈ names, y.2 = .free → ∃ c, cells.lookup y.1 = some c) →
    (∀ x c, cs.lookup x = some c → cells.lookup x = some c) → (clOf cells names cs).lookup x = some c → cells.lookup x = some c
  | [], cs, x, c, _, hs, e => hs x c e
  | (n, k) :: r, cs, x, c, h, hs, e => by
    unfold clOf at e
    by_cases q : (k == NameKind.free) = true
    · rw [if_pos q] at e
      obtain ⟨c0, hc0⟩ := h (n, k) List.mem_cons_self (by simpa using q)
      refine clOf_sub r _ x c (fun y hy => h y (List.mem_cons_of_mem _ hy)) (fun x' c' e' => ?_) e
      rw [List.lookup_cons] at e'
      cases hx : x' == n with
      | true =>
        rw [hx] at e'
        have hx' : x' = n := by simpa using hx
        subst hx'
        have hc0' : cells.lookup x' = some c0 := hc0
        rw [hc0'] at e' ⊢
        exact e'
      | false =>
        rw [hx] at e'
        exact hs x' c' e'
    · rw [if_neg q] at e
      exact clOf_sub r _ x c (fun y hy => h y (List.mem_cons_of_mem _ hy)) hs e
theorem clOf_keep {cells : List (Str × Addr)} : ∀ (names : List (Str × NameKind)) (cs : List (Str × Addr)) (x : Str), (∃ c, cs.lookup x = some c) → ∃ c, (clOf cells names cs).lookup x = some c
  | [], cs, x, e => e
  | (n, k) :: r, cs, x, e => by
    unfold clOf
    by_cases q : (k == NameKind.free) = true
    · rw [if_pos q]
      refine clOf_keep r _ x ?_
      rw [List.lookup_cons]
      cases hx : x == n with
      | true => exact ⟨_, rfl⟩
      | false => exact e
    · rw [if_neg q]
      exact clOf_keep r _ x e
theorem clOf_has {cells : List (Str × Addr)} : ∀ (names : List (Str × NameKind)) (cs : List (Str × Addr)) (x : Str), names.lookup x = some .free → ∃ c, (clOf cells names cs).lookup x = some c
  | [], cs, x, e => by simp at e
  | (n, k) :: r, cs, x, e => by
    rw [List.lookup_cons] at e
    unfold clOf
    cases hx : x == n with
    | true =>
      rw [hx] at e
      have e' : k = .free := Option.some.inj e
      subst e'
      rw [if_pos (by decide)]
      refine clOf_keep r _ x ?_
      rw [List.lookup_cons, hx]
      exact ⟨_, rfl⟩
    | false =>
      rw [hx] at e
      by_cases q : (k == NameKind.free) = true
      · rw [if_pos q]; exact clOf_has r _ x e
      · rw [if_neg q]; exact clOf_has r _ x e
def asCell (env : Env) (p : Str × NameKind) : Bool := p.2 == .free && env.scope.kind == .function && env.kindOf p.1 == some .cell
def inBlock (env : Env) (p : Str × NameKind) : Str × NameKind := if asCell env p = true then (p.1, .cell) else p
theorem inBlock_fst (env : Env) (p : Str × NameKind) : (inBlock env p).1 = p.1 := by unfold inBlock; split <;> rfl
theorem inBlock_snd (env : Env) (p : Str × NameKind) : (inBlock env p).2 = p.2 ∨ ((inBlock env p).2 = .cell ∧ p.2 = .free) := by
  unfold inBlock
  split
  · rename_i h
    refine .inr ⟨rfl, ?_⟩
    unfold asCell at h
    cases e : p.2 <;> simp [e] at h <;> rfl
  · exact .inl rfl
theorem relabel_names (scope : Scope) (env : Env) : (relabel scope env).names = scope.names.map (inBlock env) := rfl
theorem look_map {f : Str × NameKind → Str × NameKind} (hf : ∀ p, (f p).1 = p.1) : ∀ (l : List (Str × NameKind)) (x : Str), (l.map f).lookup x = none ∧ l.lookup x = none ∨ ∃ p ∈ l, (l.map f).lookup x = some (f p).2 ∧ l.lookup x = some p.2
  | [], _ => .inl ⟨rfl, rfl⟩
  | p :: r, x => by
    have e1 : ((p :: r).map f).lookup x = if x == p.1 then some (f p).2 else (r.map f).lookup x := by
      show List.lookup x (((f p).1, (f p).2) :: r.map f) = _
      rw [List.lookup_cons, hf p]; cases x == p.1 <;> rfl
    have e2 : (p :: r).lookup x = if x == p.1 then some p.2 else r.lookup x := by
      show List.lookup x ((p.1, p.2) :: r) = _
      rw [List.lookup_cons]; cases x == p.1 <;> rfl
    rw [e1, e2]
    cases x == p.1
    · rcases look_map hf r x with z | ⟨q, hq, z⟩
      · exact .inl z
      · exact .inr ⟨q, List.mem_cons_of_mem _ hq, z⟩
    · exact .inr ⟨p, List.mem_cons_self, rfl, rfl⟩
theorem relabel_kind {scope : Scope} {env : Env} {x : Str} {k' : NameKind} (h : (relabel scope env).names.lookup x = some k') : scope.names.lookup x = some k' ∨ (k' = .cell ∧ scope.names.lookup x = some .free) := by
  rw [relabel_names] at h
  rcases look_map (inBlock_fst env) scope.names x with ⟨z, _⟩ | ⟨p, _, z, e⟩
  · rw [z] at h; cases h
  · rw [z] at h
    obtain rfl := Option.some.inj h
    rcases inBlock_snd env p with q | ⟨q, q'⟩
    · rw [q]; exact .inl e
    · exact .inr ⟨q, by rw [e, q']⟩
theorem relabel_free {scope : Scope} {env : Env} {x : Str} (h : scope.names.lookup x = some .free) : (relabel scope env).names.lookup x = some .cell ∨ (relabel scope env).names.lookup x = some .free := by
  rw [relabel_names]
  rcases look_map (inBlock_fst env) scope.names x with ⟨_, z⟩ | ⟨p, _, z, e⟩
  · rw [z] at h; cases h
  · rw [e] at h
    rcases inBlock_snd env p with q | ⟨q, _⟩
    · rw [z, q, h]; exact .inr rfl
    · rw [z, q]; exact .inl rfl
def cxComp (X : Cx) (N' : List Str) (scope : Scope) (C : Addr) (s₀ : Shared) (H₀ : Hp) (fp : List Addr) (pins : List (Addr × Obj)) : Cx :=
  { X with N := N', s₀ := s₀, H₀ := H₀, env := compEnvC scope (clOf X.env.cells scope.names []) C X.env, outer := X.stack, stack := X.stack, ex := fp, fn := fun _ => false, pn := X.pn ++ pins, xe := fun _ _ => False }
def capσ (cap : List (Option Nat)) (σ : St) : St := cap.map fun o => match o with | some i => (match σ[i]? with | some v => v | none => none) | none => none
def tst (M : Model) (A : Around) (env : Env) (E : Value → Shared → Prop) (o : Option Expr) (Q : Bool → Shared → Prop) (s : Shared) : Prop := match o with
  | none => Q true s
  | some c => wpAny M A (isTrue c env (eval c env)) Q E s
theorem tst_mono {M : Model} {A : Around} {env : Env} {E : Value → Shared → Prop} {o : Option Expr} {Q Q' : Bool → Shared → Prop} {s : Shared} (h : tst M A env E o Q s) (k : ∀ b z, Q b z → Q' b z) : tst M A env E o Q' s := by
  cases o with
  | none => exact k _ _ h
  | some c => exact thn h k
def PTo (X : Cx) (o : Option Expr) (t : TT) : Prop :=
  ∀ (pins : List (Addr × Obj)) (s : Shared) (σ : St) (H : Hp) (Q : Bool → Hp → Prop), Inv X pins σ H s → t σ H Q → tst (model X.prog X.w) X.A X.env X.xe o (TP X pins σ Q) s
def tYes : TT := fun _ H Q => Q true H
theorem pt_none {X : Cx} : PTo X none tYes := fun _ _ _ H _ I h => ⟨H, I, h⟩
theorem pt_some {X : Cx} {c : Expr} {t : TT} (h : PT X c t) : PTo X (some c) t := fun pins s σ H Q I hw => h pins s σ H Q I hw
abbrev NoX : Value → Shared → Prop := fun _ _ => False
def Go (M : Model) (A : Around) (tg elt : Expr) (o : Option Expr) (it acc : Value) (env : Env) (R : Result → Shared → Prop) (onward : Shared → Prop) (s : Shared) : Prop :=
  wpAny M A (pyNext it) (fun r a => match r with
    | none => R (.ok .next) a
    | some v => wpAny M A (letOwnedTupleGo tg it v) (fun _ b => wpAny M A (assign tg env v) (fun _ c => tst M A env NoX o (fun yes d =>
        if yes = true then wpAny M A (eval elt env) (fun x e => wpAny M A (call (.builtin "list.append") [acc, x]) (fun _ f => onward f) NoX e) NoX d else onward d) c) NoX b) NoX a) NoX s
theorem comp_loop {prog : Program} {w : World} {A : Around} {R : Result → Shared → Prop} {s : Shared} {elt tg iter : Expr} {o : Option Expr} {scope : Scope} {pos : Pos} {it acc : Value} {env : Env} (J : Nat → Shared → Prop)
    (turn : ∀ n s, J n s → Go (model prog w) A tg elt o it acc env R (fun z => ∃ m, m < n ∧ J m z) s) (n : Nat) (h : J n s) :
    codeAny (model prog w) A (.compLoop (.ListComp elt [⟨tg, iter, o.toList, 0⟩] scope pos) 0 it acc env) R s := by
  cases o with
  | none =>
    refine PySem.W.kcp_loop J (fun n a ha => wpAny_mono (turn n a ha) (fun r b hb => ?_) fun _ _ z => z.elim) n h
    cases r with
    | none => exact hb
    | some v => exact wpAny_mono hb (fun _ c hc => wpAny_mono hc (fun _ d hd => wpAny_mono (show wpAny _ _ _ _ _ d from hd) (fun x e he => wpAny_mono he (fun _ _ q => q) fun _ _ z => z.elim) fun _ _ z => z.elim) fun _ _ z => z.elim) fun _ _ z => z.elim
  | some t =>
    refine PySem.W.kct_loop J (fun n a ha => wpAny_mono (turn n a ha) (fun r b hb => ?_) fun _ _ z => z.elim) n h
    cases r with
    | none => exact hb
    | some v =>
      refine wpAny_mono hb (fun _ c hc => wpAny_mono hc (fun _ d hd => wpAny_mono (show wpAny _ _ _ _ _ d from hd) (fun yes e he => ?_) fun _ _ z => z.elim) fun _ _ z => z.elim) fun _ _ z => z.elim
      cases yes
      · exact he
      · exact wpAny_mono (show wpAny _ _ _ _ _ e from he) (fun x f hf => wpAny_mono hf (fun _ _ q => q) fun _ _ z => z.elim) fun _ _ z => z.elim
structure CapOk (N N' : List Str) (sc scope : Scope) (cap : List (Option Nat)) : Prop where
  kind : scope.kind = .function
  nocell : ∀ y ∈ scope.names, y.2 ≠ .cell
  names : ∀ y ∈ scope.names, y.2 = .local → scope.names.lookup y.1 = some .local
  free : ∀ y ∈ scope.names, y.2 = .free → sc.names.lookup y.1 = some .cell ∨ sc.names.lookup y.1 = some .free
  len : cap.length = N'.length
  cap : ∀ p ∈ N'.zip cap, ∀ i, p.2 = some i → N[i]? = some p.1 ∧ scope.names.lookup p.1 = some .free ∧ (sc.names.lookup p.1 = some .cell ∨ sc.names.lookup p.1 = some .free)
theorem lookup_mem {α : Type} : ∀ {l : List (Str × α)} {x : Str} {a : α}, l.lookup x = some a → (x, a) ∈ l
  | [], _, _, h => by simp at h
  | (n, k) :: r, x, a, h => by
    rw [List.lookup_cons] at h
    cases hx : x == n with
    | true =>
      rw [hx] at h
      have e : k = a := Option.some.inj h
      have e2 : x = n := by simpa using hx
      subst e e2
      exact List.mem_cons_self
    | false => rw [hx] at h; exact List.mem_cons_of_mem _ (lookup_mem h)
def LCW (J : It) (g : TG) (tt : TT) (te : TE) (l : Addr) (Q : VK) (W : Nat → Nat → List V → St → Hp → Prop) : Prop :=
  ∀ i m acc σ' H', W i m acc σ' H' → H' l = some (.lst acc) ∧
    ((J.stop i H' ∧ Q (.ref l) H') ∨ (J.go i H' ∧ ∀ x H2, J.yld i H' x H2 → g x σ' H2 fun σ3 H3 => tt σ3 H3 fun b H4 =>
      if b = true then te σ3 H4 fun y H5 => H5 l = some (.lst acc) ∧ acc.length < sizeLine ∧ ∃ m', m' < m ∧ W (i + 1) m' (acc ++ [y]) σ3 (upd H5 l (.lst (acc ++ [y])))
      else ∃ m', m' < m ∧ W (i + 1) m' acc σ3 H4))
def tLC (cap : List (Option Nat)) (wi : TI) (g : TG) (tt : TT) (te : TE) : TE := fun σ H Q => wi σ H fun J H1 => ∀ l, H1 l = none →
  ∃ W : Nat → Nat → List V → St → Hp → Prop, (∃ m, W 0 m [] (capσ cap σ) (upd H1 l (.lst []))) ∧ LCW J g tt te l Q W
end L2
end
section
set_option maxHeartbeats 4000001
namespace L2
open PySem PySem.Spec PyProof.Rows
theorem lc_core {X : Cx} {elt tg iter : Expr} {o : Option Expr} {scope : Scope} {pos ppos : Pos} {wi : TI} {g : TG} {tt : TT} {te : TE} {N' : List Str} {cap : List (Option Nat)} {use : Option (Value → Sem Unit)} {Q0 : Value → Shared → Prop}
    (hc : X.calm = true) (hi : PI X tg iter wi) (ck : CapOk X.N N' X.env.scope scope cap)
    (hg : ∀ C s₀ H₀ fp pins, PG (cxComp X N' scope C s₀ H₀ fp pins) tg g)
    (ht : ∀ C s₀ H₀ fp pins, PTo (cxComp X N' scope C s₀ H₀ fp pins) o tt)
    (he : ∀ C s₀ H₀ fp pins, PE (cxComp X N' scope C s₀ H₀ fp pins) elt te)
    (hs : ∀ x, foldedSetIterable iter X.env x = pure x) {pins : List (Addr × Obj)} {s : Shared} {σ : St} {H : Hp} {Q : VK} (I : Inv X pins σ H s) (h : tLC cap wi g tt te σ H Q)
    (fin : ∀ (l C : Addr) (H4 : Hp) (s5 : Shared) (m : Str → Option Value), Inv X pins σ H4 s5 → Q (.ref l) H4 → s5.heap.Ns C m → FpOk X pins H4 C → compPost (model X.prog X.w) X.A X.xe use Q0 (.ref l) C (.ok .next) s5) :
    wpAny (model X.prog X.w) X.A (comprehension (.ListComp elt [⟨tg, iter, o.toList, 0⟩] scope pos) scope X.env ppos (newList []) false (eval iter X.env) use) Q0 X.xe s := by
  have hcells : ∀ y ∈ scope.names, y.2 = .free → ∃ c, X.env.cells.lookup y.1 = some c := fun y hy hf => I.ok.has y.1 (ck.free y hy hf)
  refine wpAny_comprehension_free (use := use) rfl hs (closure_eq hcells) ck.kind ck.names (thn (hi pins s σ H _ I h) fun v s1 h1 => thn h1 fun itv s2 h2 => ?_)
  obtain ⟨it, fp, tn, J, H2, e, I2, T, st2, f2, body⟩ := h2
  subst e
  have hfr2 : H2 s2.heap.objs.size = none := I2.hok.fresh (Nat.le_refl _)
  obtain ⟨W, ⟨m0, w0⟩, turn⟩ := body s2.heap.objs.size hfr2
  have I3 : Inv X pins σ (upd H2 s2.heap.objs.size (.lst [])) { s2 with heap := s2.heap.push { cls := .type "list", data := .seq ([] : List Value).toArray }, toks := s2.toks } := I2.lnew (its := []) (t' := s2.toks) .nil (Nat.zero_le _)
  refine wpAny_newObj_type (wpAny_newFunctionEnv ck.nocell (by intro y hy; simp at hy) (fun h₁ hns₁ hsb₁ => ?_) ck.kind)
  dsimp only at hns₁ hsb₁ ⊢
  generalize hl : s2.heap.objs.size = l at *
  generalize hP : s2.heap.push { cls := .type "list", dict := none, data := .seq ([] : List Value).toArray } = P2 at *
  generalize hH3 : upd H2 l (.lst []) = H3 at *
  have old : ∀ b o, P2.get? b = some o → h₁.get? b = some o := fun b o e => hsb₁.extBut b o (Nat.ne_of_lt (Heap.lt_size e)) (Heap.get?_push_of_some _ e)
  have old2 : ∀ b o, s2.heap.get? b = some o → P2.get? b = some o := fun b o e => hP ▸ Heap.get?_push_of_some _ e
  have fpl : ∀ b ∈ fp, b < l := fun b hb => by
    obtain ⟨o, e, _⟩ := T.obj _ _ st2 b hb
    rw [← hl]; exact Heap.lt_size e
  have fp3 : ∀ b ∈ fp, H3 b = none := fun b hb => by
    rw [← hH3, upd_ne (Nat.ne_of_lt (fpl b hb))]; exact (f2 b hb).1
  have hPs : P2.objs.size = l + 1 := by rw [← hP, Heap.size_push, hl]
  have subc : ∀ x c, (clOf X.env.cells scope.names []).lookup x = some c → X.env.cells.lookup x = some c := fun x c e => clOf_sub _ _ x c hcells (fun _ _ z => by simp at z) e
  generalize hs3 : ({ s2 with heap := P2, toks := s2.toks } : Shared) = s3 at *
  have hs3h : s3.heap = P2 := by rw [← hs3]
  let Y := cxComp X N' scope P2.objs.size s3 H3 fp pins
  have hYok : Y.Ok := by
    refine ⟨I3.ok.mod, ck.kind, I3.ok.glob, I3.ok.blt, by show s3.heap.objs.size ≤ P2.objs.size; rw [hs3h]; exact Nat.le_refl _, fun x y c e1 e2 => I3.ok.inj x y c (subc x c e1) (subc y c e2), fun x hx => ?_, fun x c hx => absurd (show false = true from hx) Bool.false_ne_true, I3.ok.hd, I3.ok.frames, .inl rfl, fun b hb => ⟨?_, fun x c e => ?_⟩, I3.bs,
      Nat.le_trans I3.ok.bsz I3.sz, fun b o e hb => ?_, fun b hb hz => ?_, I3.stack, I3.stkFree⟩
    · have hx' : scope.names.lookup x = some .free := by
        rcases hx with hx | hx
        · rcases relabel_kind hx with z | z
          · exact absurd rfl (ck.nocell _ (lookup_mem z))
          · exact z.2
        · rcases relabel_kind hx with z | z
          · exact z
          · exact z.2
      exact clOf_has _ _ x hx'
    · exact Nat.ne_of_lt (by show b < P2.objs.size; rw [hPs]; exact Nat.lt_succ_of_lt (fpl b hb))
    · exact (f2 b hb).2.2.2.2.1 x c (subc x c e)
    · rcases (f2 b hb).2.2.2.1 with z | z
      · exact I3.ok.noex b o e z
      · exact absurd (Nat.lt_of_lt_of_le (Heap.lt_size e) (Nat.le_trans I3.ok.bsz z)) (Nat.lt_irrefl _)
    · rcases List.mem_cons.mp (I3.stkSub b hz) with z | z
      · exact (f2 b hb).2.1 z
      · exact (f2 b hb).2.2.1 z
  have hYi : Inv Y [] (capσ cap σ) H3 { s2 with heap := h₁, toks := s2.toks } := by
    refine ⟨hYok, by show s2.os = s3.os; rw [← hs3], I2.bare, by show Un _ _ _ _ s3.heap h₁; rw [hs3h]; exact Un.kept old, ⟨_, hns₁, fun j x v e1 e2 e3 => ?_⟩, fun x c e => ?_, ?_, fun x c e => I3.freeC x c (subc x c e), fun p hp => ?_, fun b o e => ?_, ?_⟩
    · have e1' : N'[j]? = some x := e1
      unfold capσ at e2
      rw [List.getElem?_map] at e2
      cases ec : cap[j]? with
      | none => rw [ec] at e2; cases e2
      | some oc =>
        rw [ec] at e2
        cases oc with
        | none => cases e2
        | some i =>
          have e2' : σ[i]? = some (some v) := by
            cases ei : σ[i]? with
            | none => simp [ei] at e2
            | some v' =>
              simp [ei] at e2
              rw [e2]
          have hz : (x, some i) ∈ N'.zip cap := by
            refine List.mem_of_getElem? (i := j) ?_
            rw [List.getElem?_zip_eq_some]
            exact ⟨e1', ec⟩
          obtain ⟨hN, hf, hk⟩ := ck.cap _ hz i rfl
          obtain ⟨m, hn, hlo⟩ := I3.loc
          obtain ⟨u, r, lk⟩ := hlo i x v hN e2' (by rcases hk with z | z; exact .inr (.inl z); exact .inr (.inr z))
          refine ⟨u, r, .inr ⟨?_, ?_⟩⟩
          · exact relabel_free hf
          · rcases lk with ⟨z, _⟩ | ⟨_, c, hcx, hcell⟩
            · have z' : X.env.scope.names.lookup x = some .local := z
              rcases hk with q | q
              · rw [q] at z'; cases z'
              · rw [q] at z'; cases z'
            · obtain ⟨c', hc'⟩ := clOf_has (cells := X.env.cells) scope.names [] x hf
              have := subc x c' hc'
              rw [hcx] at this; cases this
              obtain ⟨ob, e, d⟩ := hcell
              rw [hs3h] at e
              exact ⟨c, hc', ob, old c ob e, d⟩
    · obtain ⟨v, ob, e', d⟩ := I3.cell x c (subc x c e)
      rw [hs3h] at e'
      exact ⟨v, ob, old c ob e', d⟩
    · refine I3.hok.fresh ?_
      rw [hs3h]; exact Nat.le_refl _
    · have hp' : p ∈ X.pn ++ pins := (List.mem_append.mp hp).elim (fun z => z) (fun z => nomatch z)
      obtain ⟨e, n, ne, nf, d⟩ := I3.pin p hp'
      rw [hs3h] at e
      refine ⟨old _ _ e, n, Nat.ne_of_lt (Heap.lt_size e), fun z => ?_, d⟩
      rcases List.mem_cons.mp (I3.stkSub _ z) with q | q
      · exact ne q
      · exact nf q
    · have := I3.hok.kept (h' := h₁) (fun b u q => old b u (by rw [← hs3h]; exact q))
      exact this b o e
    · show (cap.map _).length = N'.length
      rw [List.length_map, ck.len]
  have stat : ∀ {H' : Hp}, (∀ b ∈ fp, H' b = none) → ∀ b ∈ fp, FpOk Y [] H' b := fun {H'} hn b hb => by
    refine ⟨hn b hb, (hYok.exf b hb).1, hYok.exfs b hb, .inl hb, (hYok.exf b hb).2, fun p hp => ?_⟩
    have hp' : p ∈ X.pn ++ pins := (List.mem_append.mp hp).elim (fun z => z) (fun z => nomatch z)
    exact (f2 b hb).2.2.2.2.2 p hp'
  have st1 : tn 0 h₁ := T.keep 0 _ _ st2 fun b hb o e => old b o (old2 b o e)
  have loop : codeAny (model X.prog X.w) X.A (.compLoop (.ListComp elt [⟨tg, iter, o.toList, 0⟩] scope pos) 0 (.ref it) (.ref l) Y.env) (compPost (model X.prog X.w) X.A X.xe use Q0 (.ref l) P2.objs.size) { s2 with heap := h₁, toks := s2.toks } := by
    refine comp_loop (fun n s' => ∃ i acc σ' H', Inv Y [] σ' H' s' ∧ tn i s'.heap ∧ (∀ b ∈ fp, H' b = none) ∧ W i n acc σ' H') ?_ m0 ⟨0, [], _, H3, hYi, st1, fp3, w0⟩
    rintro n s4 ⟨i, acc, σ4, H4, I4, st4, fr4, w4⟩
    obtain ⟨hlst, q4⟩ := turn i n acc σ4 H4 w4
    rcases q4 with ⟨stop, qn⟩ | ⟨go, step⟩
    · refine thn (T.done Y rfl rfl rfl hc i [] s4 σ4 H4 Y.xe I4 (stat fr4) st4 stop) fun r s5 ⟨hr, I5⟩ => ?_
      subst hr
      obtain ⟨m, hn, _⟩ := id I5.loc
      have un : Un (frs X.stack) fp H3 H4 s3.heap s5.heap := I5.base
      have sz3 : s3.heap.objs.size ≤ P2.objs.size := by rw [hs3h]; exact Nat.le_refl _
      have IX : Inv X pins σ H4 s5 := I3.call' (ch := fp) I5.os un I5.hok I5.bare fun b hb => ⟨(f2 b hb).2.2.2.1, (f2 b hb).2.1, (f2 b hb).2.2.2.2.1, (f2 b hb).2.2.2.2.2⟩
      exact fin l P2.objs.size H4 s5 m IX qn hn (I3.fpOk sz3 I5.free)
    · refine thn (T.item Y rfl rfl rfl hc i [] s4 σ4 H4 Y.xe I4 (stat fr4) st4 go) fun r s5 ⟨u, hr, h5⟩ => ?_
      subst hr
      refine thn h5 fun _ s6 ⟨x, H6, I6, r6, y6, st6, fr6⟩ => ?_
      have I6' := I6.pinned (stat fr6) (T.obj _ _ st6)
      refine thn (hg _ _ _ _ _ _ s6 σ4 H6 x u _ I6' r6 (step x H6 y6)) fun _ s7 ⟨σ7, H7, I7, q7⟩ => ?_
      refine tst_mono (ht _ _ _ _ _ _ s7 σ7 H7 _ I7 q7) fun b s8 ⟨H8, I8, q8⟩ => ?_
      have again : ∀ {σ9 : St} {H9 : Hp} {s9 : Shared} {acc9 : List V}, Inv Y ([] ++ pinsAt fp s6.heap) σ9 H9 s9 → (∃ m', m' < n ∧ W (i + 1) m' acc9 σ9 H9) → ∃ m, m < n ∧ ∃ i acc σ' H', Inv Y [] σ' H' s9 ∧ tn i s9.heap ∧ (∀ b ∈ fp, H' b = none) ∧ W i m acc σ' H' := fun {σ9 H9 s9 acc9} I9 ⟨m', hm, w9⟩ => by
        refine ⟨m', hm, i + 1, acc9, σ9, H9, I9.unpinned, T.keep _ _ _ st6 fun b hb o e => (I9.pin (b, o) (List.mem_append_right _ (List.mem_append_right _ (mem_pinsAt hb e)))).1, fun b hb => ?_, w9⟩
        obtain ⟨o, e, d⟩ := T.obj _ _ st6 b hb
        exact (I9.pin (b, o) (List.mem_append_right _ (List.mem_append_right _ (mem_pinsAt hb e)))).2.1
      cases b with
      | false =>
        rw [if_neg Bool.false_ne_true] at q8 ⊢
        exact again I8 q8
      | true =>
        rw [if_pos rfl] at q8 ⊢
        refine thn (he _ _ _ _ _ _ s8 σ7 H8 _ I8 q8) fun yv s9 ⟨y, H9, I9, r9, hl9, hz9, q9⟩ => ?_
        refine thn (mt_append (X := Y) _ s9 σ7 H9 (.ref l) [y] (.ref l) [yv] (fun _ H' => H' = upd H9 l (.lst (acc ++ [y]))) I9 rfl (.cons r9 .nil) ⟨l, acc, y, rfl, rfl, hl9, hz9, rfl⟩) fun _ s10 ⟨_, H10, I10, _, e10⟩ => ?_
        subst e10
        exact again I10 q9
  exact codeAny_compStart_list loop (T.self X.A 0 _ _ _ st1 loop)
theorem Inv.gone {X : Cx} {pins : List (Addr × Obj)} {σ : St} {H : Hp} {s : Shared} {C : Addr} {h' : Heap} (I : Inv X pins σ H s) (f : FpOk X pins H C) (sb : Heap.SameBut C s.heap h') : Inv X pins σ H { s with heap := h' } :=
  I.turned (t' := s.toks) (fun b o hb e => (sb.2 b hb).trans e) f.1 f.2.1 f.2.2.2.1 f.2.2.2.2.1 f.2.2.2.2.2
theorem pe_lc {X : Cx} {elt tg iter : Expr} {o : Option Expr} {scope : Scope} {pos : Pos} {wi : TI} {g : TG} {tt : TT} {te : TE} {N' : List Str} {cap : List (Option Nat)}
    (hc : X.calm = true) (hi : PI X tg iter wi) (ck : CapOk X.N N' X.env.scope scope cap)
    (hg : ∀ C s₀ H₀ fp pins, PG (cxComp X N' scope C s₀ H₀ fp pins) tg g)
    (ht : ∀ C s₀ H₀ fp pins, PTo (cxComp X N' scope C s₀ H₀ fp pins) o tt)
    (he : ∀ C s₀ H₀ fp pins, PE (cxComp X N' scope C s₀ H₀ fp pins) elt te)
    (hs : ∀ x, foldedSetIterable iter X.env x = pure x := by intro _; rfl) :
    PE X (.ListComp elt [⟨tg, iter, o.toList, 0⟩] scope pos) (tLC cap wi g tt te) := by
  intro pins s σ H Q I h
  rw [eval_ListComp]
  exact lc_core (use := none) hc hi ck hg ht he hs I h fun l C H4 s5 m I5 q hn f => ⟨m, hn, fun h' sb => ⟨.ref l, H4, I5.gone f sb, rfl, q⟩⟩
end L2
end
section
set_option maxHeartbeats 4000001
namespace Own
open PySem PySem.Spec PyProof.Rows
section
variable {M : Model} {prog : Program} {w : World} {A : Around} {E : Value → Shared → Prop} {s : Shared} {α : Type} {Q : α → Shared → Prop}
end
def cN : Bool → String
  | true => "list_iterator"
  | false => "tuple_iterator"
def SqO : Bool → Heap → Addr → Array Value → Prop
  | true, h, a, xs => h.IsList a xs
  | false, h, a, xs => h.IsTuple a xs
theorem SqO.ob {b : Bool} {h : Heap} {a : Addr} {xs : Array Value} (x : SqO b h a xs) : ∃ o n, h.get? a = some o ∧ o.data = .seq xs n := by
  cases b <;> (obtain ⟨o, e, _, n, d⟩ := x; exact ⟨o, n, e, d⟩)
theorem SqO.mv {b : Bool} {h h' : Heap} {a : Addr} {xs : Array Value} (x : SqO b h a xs) (k : ∀ o, h.get? a = some o → h'.get? a = some o) : SqO b h' a xs := by
  cases b <;> (obtain ⟨o, e, r⟩ := x; exact ⟨o, k o e, r⟩)
section
variable {prog : Program} {w : World} {A : Around} {E : Value → Shared → Prop} {s : Shared}
theorem iter_of {b : Bool} {a : Addr} {xs : Array Value} {P : Value → Shared → Prop} (sq : SqO b s.heap a xs)
    (h : P (.ref s.heap.objs.size) { s with heap := s.heap.push { cls := .type (cN b), data := .fields #[.ref a, .int 0 0] } }) : wpAny (model prog w) A (pyIter (.ref a)) P E s := by
  cases b
  · exact wpAny_pyIter_tuple sq h
  · exact wpAny_pyIter_list sq h
end
section
variable {prog : Program} {w : World} {A : Around} {E : Value → Shared → Prop} {s : Shared} {z TI TO i1 i2 : Addr} {f1 f2 : List Addr} {n1 n2 k : Nat} {P1 P2 : Nat → Value → Prop} {S1 S2 : Nat → Heap → Prop} {a b : Value}
end
end Own
end
section
set_option maxHeartbeats 4000001
namespace Own
open PySem PySem.Spec PyProof.Rows
section
variable {prog : Program} {w : World} {A : Around} {E : Value → Shared → Prop} {s : Shared} {z TI TO i1 i2 : Addr} {f1 f2 : List Addr} {n1 n2 k : Nat} {P1 P2 : Nat → Value → Prop} {S1 S2 : Nat → Heap → Prop} {a b : Value}
end
end Own
end
section
set_option maxHeartbeats 4000001
namespace L2
open PySem PySem.Spec PyProof.Rows Own
section
variable {X : Cx} {pins : List (Addr × Obj)} {σ : St} {H : Hp} {s : Shared} {h' : Heap}
end
def SqB : Bool → PySem.W.Frag → Hp → Addr → List V → Prop
  | true, K, H, a, xs => SqL K H a xs
  | false, K, H, a, xs => SqT K H a xs
section
variable {X : Cx} {pins : List (Addr × Obj)} {σ : St} {H : Hp} {s : Shared} {a c : Addr} {xs ys : List V} {b : Bool}
theorem Inv.sq (I : Inv X pins σ H s) (h : SqB b X.K H a xs) : ∃ its : List Value, Vals xs its ∧ SqO b s.heap a its.toArray := by
  cases b
  · obtain ⟨its, r, p, z⟩ := I.tuple h
    exact ⟨its, r, p⟩
  · obtain ⟨its, r, p, z⟩ := I.list h
    exact ⟨its, r, p.isList⟩
end
end L2
end
section
set_option maxHeartbeats 4000001
namespace L2
open PySem PySem.Spec PyProof.Rows Own
section
variable {X : Cx}
theorem walkB {prog : Program} {w : World} {A : Around} (hh : A.handled = none) (b : Bool) (I a : Addr) (hne : a ≠ I) (xs : Array Value) :
    Walks prog w A I [I, a] [I] xs.size (fun i v => xs[i]? = some v) (fun i h => (match b with | true => h.IsListIter I a i | false => h.IsTupleIter I a i) ∧ SqO b h a xs) := by
  cases b
  · exact Walks.tuple hh I a hne xs
  · exact Walks.list hh I a hne xs
theorem preSum_list (ns : List Int) : ∀ n, n ≤ ns.length → preSum (fun i => ns.getD i 0) n = (ns.take n).sum
  | 0, _ => by simp [preSum]
  | n + 1, h => by
    have e : ns[n]? = some ns[n] := List.getElem?_eq_getElem h
    rw [preSum, preSum_list ns n (Nat.le_of_lt h), List.take_add_one, List.sum_append, e, List.getD_eq_getElem?_getD, e]
    simp
theorem call_sumB (hc : X.calm = true) (b : Bool) : CallR X (.builtin "sum") (fun vs H Q => ∃ a ns, vs = [.ref a] ∧ SqB b X.K H a (List.map V.int ns) ∧ Q (.int ns.sum) H) := by
  intro pins s σ H vs us Q I rv h
  obtain ⟨a, ns, rfl, hq, q⟩ := h
  obtain ⟨u, rfl, ru⟩ := rv.one
  cases ru
  obtain ⟨its, r, p⟩ := I.sq hq
  have hne : a ≠ s.heap.objs.size := by
    obtain ⟨o, n, e, _⟩ := p.ob
    exact Nat.ne_of_lt (Heap.lt_size e)
  have hl : its.length = ns.length := by rw [← r.length, List.length_map]
  refine call_sum_walkG (iter_of p ⟨s.heap.objs.size, [s.heap.objs.size, a], [s.heap.objs.size], _, _, _, fun i => ns.getD i 0, rfl, walkB (show X.A.in1.handled = none from I.ok.hd hc) b _ a hne its.toArray, ?_, ?_, ?_, ?_⟩)
  · refine ⟨?_, p.mv fun o e => Heap.get?_push_of_some _ e⟩
    cases b <;> exact ⟨_, Heap.get?_push_size _ rfl, rfl, rfl⟩
  · intro c hm
    show c < (s.heap.push _).objs.size
    rw [Heap.size_push]
    rcases List.mem_cons.mp hm with z | z
    · rw [z]; exact Nat.lt_succ_self _
    · rw [List.mem_singleton.mp z]
      obtain ⟨o, n, e, _⟩ := p.ob
      exact Nat.lt_succ_of_lt (Heap.lt_size e)
  · intro i v hv
    have hv' : its[i]? = some v := by simpa using hv
    have hi := (List.getElem?_eq_some_iff.mp hv').1
    have e : (List.map V.int ns)[i]? = some (V.int (ns.getD i 0)) := by
      rw [List.getElem?_map, List.getD_eq_getElem?_getD, List.getElem?_eq_getElem (by lia)]
      rfl
    obtain ⟨u', e', ⟨t, rfl⟩⟩ := r.get e
    rw [hv'] at e'
    exact ⟨t, Option.some.inj e'⟩
  · intro h' tk t' hk
    refine ⟨.int ns.sum, H, I.kept (t' := tk) fun c o e => hk c o ?_ (Heap.get?_push_of_some _ e), ⟨t', ?_⟩, q⟩
    · exact fun z => Nat.ne_of_lt (Heap.lt_size e) (List.mem_singleton.mp z)
    · rw [List.size_toArray, hl, preSum_list ns _ (Nat.le_refl _), List.take_length]
theorem call_isi : CallR X (.builtin "isinstance") (fun vs H Q => ∃ x T t k, vs = [x, .ty T] ∧ TyOf X.K H x t ∧ PySem.W.kitOne X.K t (.type T) = some k ∧ Q (.bl k) H) := by
  intro pins s σ H vs us Q I rv h
  obtain ⟨x, T, t, k, rfl, ht, hk, q⟩ := h
  obtain ⟨u, v, rfl, ru, rv'⟩ := rv.two
  cases (show v = Value.type T from rv')
  exact isinst_ok I ru ht hk fun tk => ⟨.bl k, H, I.tok tk, rfl, q⟩
end
example (K : PySem.W.Frag) : PySem.W.kitOne K (.type "int") (.type "tuple") = some false := by rfl
example (K : PySem.W.Frag) : PySem.W.kitOne K (.type "int") (.type "bool") = some false := by first | rfl | decide | (with_unfolding_all rfl)
end L2
end
section
set_option maxHeartbeats 4000001
namespace L2
open PySem PySem.Spec PyProof.Rows Own
theorem same_new {H : Hp} {p : Addr} (h : H p = none) (o : HO) : Same H (upd H p o) := fun b u q => by rw [upd_ne (ne_of_none q h)]; exact q
def capB (N N' : List Str) (sc scope : Scope) (cap : List (Option Nat)) : Bool :=
  decide (scope.kind = .function) && (scope.names.all fun y => decide (y.2 ≠ .cell) && (decide (y.2 ≠ .local) || decide (scope.names.lookup y.1 = some .local)) &&
    (decide (y.2 ≠ .free) || (decide (sc.names.lookup y.1 = some .cell) || decide (sc.names.lookup y.1 = some .free)))) && decide (cap.length = N'.length) &&
  ((N'.zip cap).all fun p => match p.2 with
    | none => true
    | some i => decide (N[i]? = some p.1) && (decide (scope.names.lookup p.1 = some .free) && (decide (sc.names.lookup p.1 = some .cell) || decide (sc.names.lookup p.1 = some .free))))
theorem CapOk.of {N N' : List Str} {sc scope : Scope} {cap : List (Option Nat)} (h : capB N N' sc scope cap = true) : CapOk N N' sc scope cap := by
  unfold capB at h
  simp only [Bool.and_eq_true, List.all_eq_true, Bool.or_eq_true, decide_eq_true_eq] at h
  obtain ⟨⟨⟨h1, h2⟩, h3⟩, h4⟩ := h; refine ⟨h1, fun y hy => (h2 y hy).1.1, fun y hy e => ?_, fun y hy e => ?_, h3, fun p hp i e => ?_⟩
  · rcases (h2 y hy).1.2 with z | z
    · exact absurd e z
    · exact z
  · rcases (h2 y hy).2 with z | z
    · exact absurd e z
    · exact z
  · have q := h4 p hp
    rw [e] at q
    simp only [Bool.and_eq_true, Bool.or_eq_true, decide_eq_true_eq] at q
    exact q
def Nx (n i : Nat) (p : Prop) : Prop := ∃ m', m' < n - i ∧ m' = n - (i + 1) ∧ i + 1 ≤ n ∧ p
theorem nx {n i : Nat} {p : Prop} (h : i < n) (q : p) : Nx n i p := ⟨n - (i + 1), by lia, rfl, h, q⟩
end L2
end
section
set_option maxHeartbeats 4000001
namespace L2
open PySem PySem.Spec PyProof.Rows Own
section
variable {X : Cx}
def rEqT (K : PySem.W.Frag) : R2 := fun x y H Q => ∃ a b xs ys, x = .ref a ∧ y = .ref b ∧ SqT K H a xs ∧ SqT K H b ys ∧ xs.all flatV = true ∧ ys.all flatV = true ∧ Q (.bl ((List.range (min xs.length ys.length)).all (fun j => eqV (xs.getD j .non) (ys.getD j .non)) && xs.length == ys.length)) H
theorem op_eqT (hu : X.A.units < cLine) : OpR X (compareOp .Eq) (rEqT X.K) := by
  intro pins s σ H x y v u Q I rx ry h
  obtain ⟨a, b, xs, ys, rfl, rfl, ha, hb, fa, fb, q⟩ := h
  cases rx
  cases ry
  obtain ⟨its, r1, p1, _⟩ := I.tuple ha
  obtain ⟨jts, r2, p2, _⟩ := I.tuple hb
  have l1 := r1.length
  have l2 := r2.length
  refine SeqAt.RcAt.tuples (e := fun j => eqV (xs.getD j .non) (ys.getD j .non)) p1 p2 hu (fun j h1 h2 => ?_) X.prog X.w _ _ ?_
  · have h1' : j < xs.length := by simpa [l1] using h1
    have h2' : j < ys.length := by simpa [l2] using h2
    obtain ⟨w1, e1, q1⟩ := r1.get (List.getElem?_eq_getElem h1')
    obtain ⟨w2, e2, q2⟩ := r2.get (List.getElem?_eq_getElem h2')
    have g1 : its.toArray[j] = w1 := by simpa using (List.getElem?_eq_some_iff.mp e1).2
    have g2 : jts.toArray[j] = w2 := by simpa using (List.getElem?_eq_some_iff.mp e2).2
    rw [g1, g2, List.getD_eq_getElem?_getD, List.getD_eq_getElem?_getD, List.getElem?_eq_getElem h1', List.getElem?_eq_getElem h2']
    exact eqAt_V q1 q2 (List.all_eq_true.mp fa _ (List.getElem_mem h1')) (List.all_eq_true.mp fb _ (List.getElem_mem h2'))
  · rw [List.size_toArray, List.size_toArray, ← l1, ← l2]
    exact ⟨.bl _, H, I, rfl, q⟩
theorem num_at {ns : List Int} {its : List Value} (r : Vals (ns.map V.int) its) {i : Nat} {v : Value} (h : its[i]? = some v) : i < ns.length ∧ ∃ t, v = .int (ns.getD i 0) t := by
  have hl : its.length = ns.length := by rw [← r.length, List.length_map]
  have hi := (List.getElem?_eq_some_iff.mp h).1
  have e : (List.map V.int ns)[i]? = some (V.int (ns.getD i 0)) := by
    rw [List.getElem?_map, List.getD_eq_getElem?_getD, List.getElem?_eq_getElem (by lia)]; rfl
  obtain ⟨u', e', ⟨t, rfl⟩⟩ := r.get e
  rw [h] at e'
  exact ⟨by lia, t, Option.some.inj e'⟩
theorem getD_mem {ns : List Int} {i : Nat} (h : i < ns.length) : ns.getD i 0 ∈ ns := by
  rw [List.getD_eq_getElem?_getD, List.getElem?_eq_getElem h]; exact List.getElem_mem h
theorem mem_getD {ns : List Int} {x : Int} (h : x ∈ ns) : ∃ i, i < ns.length ∧ ns.getD i 0 = x := by
  obtain ⟨i, hi, e⟩ := List.getElem_of_mem h
  exact ⟨i, hi, by rw [List.getD_eq_getElem?_getD, List.getElem?_eq_getElem hi]; exact e⟩
theorem call_minB (hc : X.calm = true) (b : Bool) : CallR X (.builtin "min") (fun vs H Q => ∃ a ns, vs = [.ref a] ∧ SqB b X.K H a (List.map V.int ns) ∧ 0 < ns.length ∧ ∀ M, M ∈ ns → (∀ x ∈ ns, M ≤ x) → Q (.int M) H) := by
  intro pins s σ H vs us Q I rv h
  obtain ⟨a, ns, rfl, hq, hpos, q⟩ := h
  obtain ⟨u, rfl, ru⟩ := rv.one
  cases ru
  obtain ⟨its, r, p⟩ := I.sq hq
  obtain ⟨o, n, eo, _⟩ := p.ob
  have hl : its.length = ns.length := by rw [← r.length, List.length_map]
  refine call_min_walk (iter_of p ⟨s.heap.objs.size, [s.heap.objs.size, a], [s.heap.objs.size], _, _, _, fun i j => decide (ns.getD i 0 < ns.getD j 0), rfl, walkB (show X.A.in1.handled = none from I.ok.hd hc) b _ a (Nat.ne_of_lt (Heap.lt_size eo)) its.toArray, ⟨?_, p.mv fun o e => Heap.get?_push_of_some _ e⟩, fun c hm => ?_, by rw [List.size_toArray]; lia, ?_, ?_⟩)
  · cases b <;> exact ⟨_, Heap.get?_push_size _ rfl, rfl, rfl⟩
  · show c < (s.heap.push _).objs.size
    rw [Heap.size_push]
    rcases List.mem_cons.mp hm with z | z
    · rw [z]; exact Nat.lt_succ_self _
    · rw [List.mem_singleton.mp z]; exact Nat.lt_succ_of_lt (Heap.lt_size eo)
  · intro i j vi vj s' Q' E' hi hj hQ
    obtain ⟨_, t, rfl⟩ := num_at r (i := i) (by simpa using hi)
    obtain ⟨_, t', rfl⟩ := num_at r (i := j) (by simpa using hj)
    exact lt_int hQ
  · intro v h' tk hv hk
    have best := argBest_lt (fun i => ns.getD i 0) (its.toArray.size - 1)
    obtain ⟨li, t, rfl⟩ := num_at r (by simpa using hv)
    refine ⟨.int _, H, I.kept (t' := tk) fun c o e => hk c o (fun z => Nat.ne_of_lt (Heap.lt_size e) (List.mem_singleton.mp z)) (Heap.get?_push_of_some _ e), ⟨t, rfl⟩, q _ (getD_mem li) fun x hx => ?_⟩
    obtain ⟨j, hj, rfl⟩ := mem_getD hx
    exact best.2 j (by rw [List.size_toArray]; lia)
end
end L2
end
section
set_option maxHeartbeats 4000001
namespace Own
open PySem PySem.Spec PyProof.Rows
section
variable {prog : Program} {w : World} {A : Around} {E : Value → Shared → Prop} {s : Shared}
end
end Own
namespace L2
open PySem PySem.Spec PyProof.Rows Own
section
variable {X : Cx}
theorem to_ints : ∀ {ns : List Int} {us : List Value}, Vals (ns.map V.int) us → IntsAre us ns
  | [], _, .nil => .nil
  | n :: ns, _, .cons ⟨t, e⟩ r => by subst e; exact .cons n t (to_ints r)
end
end L2
end
section
set_option maxHeartbeats 4000001
namespace L2
open PySem PySem.Spec PyProof.Rows Own
section
variable {X : Cx}
theorem op_notB : OpR X (compareOp .IsNot) (fun x y H Q => ∃ c d : Bool, x = .bl c ∧ y = .bl d ∧ Q (.bl (!(c == d))) H) := by
  intro pins s σ H x y v u Q I rx ry h
  obtain ⟨c, d, rfl, rfl, q⟩ := h
  cases rx; cases ry
  exact wpAny_isNot_plain rfl (fin_bl I q (by cases c <;> cases d <;> rfl))
end
theorem lc_tup {K : PySem.W.Frag} {a : Addr} {xs : List V} {g : TG} {te : TE} {l : Addr} {σ : St} {H : Hp} {Q : VK} (Pv : Nat → List V → St → Hp → Prop) (h0 : Pv 0 [] σ H) (hl : ∀ i acc σ H, Pv i acc σ H → H l = some (.lst acc) ∧ SqT K H a xs)
    (hs : ∀ i x acc σ H, xs[i]? = some x → Pv i acc σ H → g x σ H fun σ3 H3 => te σ3 H3 fun y H5 => H5 l = some (.lst acc) ∧ acc.length < sizeLine ∧ Nx xs.length i (Pv (i + 1) (acc ++ [y]) σ3 (upd H5 l (.lst (acc ++ [y])))))
    (hd : ∀ acc σ H, Pv xs.length acc σ H → Q (.ref l) H) : ∃ W : Nat → Nat → List V → St → Hp → Prop, (∃ m, W 0 m [] σ H) ∧ LCW (Itt K a) g tYes te l Q W := by
  refine ⟨fun i m acc σ H => m = xs.length - i ∧ i ≤ xs.length ∧ Pv i acc σ H, ⟨_, rfl, Nat.zero_le _, h0⟩, ?_⟩
  rintro i m acc σ H ⟨rfl, hi, p⟩
  obtain ⟨q0, q1⟩ := hl i acc σ H p
  refine ⟨q0, ?_⟩
  by_cases hlt : i < xs.length
  · refine .inr ⟨⟨xs, xs[i], q1, List.getElem?_eq_getElem hlt⟩, fun x H2 ⟨e, y⟩ => ?_⟩
    subst e
    exact hs i x acc σ _ (y xs q1) p
  · obtain rfl : i = xs.length := by lia
    exact .inl ⟨⟨xs, q1, Nat.le_refl _⟩, hd acc σ H p⟩
end L2
end
section
set_option maxHeartbeats 4000001
namespace L2
open PySem PySem.Spec PyProof.Rows PySem.Calls PySem.NumText Own
theorem looks_limit {M : Model} {K : PySem.W.Frag} {h : Heap} (X : K.In h) (e : PySem.W.nsIn K cStatics "sys.int_max_str_digits" = some none) : PySem.W.Looks M h Builtin.intMaxStrDigits 4300 := by
  show PySem.W.Looks M h (nsGet cStatics "sys.int_max_str_digits" >>= _) 4300
  exact (PySem.W.looks_nsIn X e).andThen .now
theorem wp_long {M : Model} {A : Around} {E : Value → Shared → Prop} {s : Shared} {Q : Value → Shared → Prop} {v : Value} {text : List Nat} {n : Int}
    (hl : PySem.W.Looks M s.heap Builtin.intMaxStrDigits 4300) (hs : ¬ (text.takeWhile (· != 0)).length ≤ 640) (hr : (int_private% "readNumeral") 4300 10 (text.takeWhile (· != 0)) = (int_private% "Numeral.value") n)
    (ha : ((text.takeWhile (· != 0)).length == text.length) = true) (h : Q (.int n s.toks) { s with toks := s.toks + 1 }) : wpAny M A ((int_private% "intFromText") v text 10) Q E s := by
  cases s
  repeat (any_goals (first | assumption | (with_reducible refine wpAny_ite_false (decide_eq_false hs) ?_) | ((with_reducible show wpAny _ _ Builtin.intMaxStrDigits _ _ _); refine PySem.W.Looks.at hl ?_) | wp_step))
  all_goals (try (rw [hr]; dsimp only))
  repeat (any_goals (first | assumption | (with_reducible refine wpAny_ite_true (by rw [ha]; rfl) ?_) | wp_step))
theorem meets_long {K : PySem.W.Frag} {x : Str} {u : Tok} {n : Int} (e : PySem.W.nsIn K cStatics "sys.int_max_str_digits" = some none) (hl : x.length ≤ 4300) (h6 : ¬ (numSeenOf x).length ≤ 640) (hn : intText? x = some n) :
    Meets (Builtin.«int.__new__» ⟨[.type "int", .str x u], []⟩) (fun _ R s => K.In s.heap ∧ R (.ok (.ret (.int n s.toks))) { s with toks := s.toks + 1 }) :=
  .of_wp fun prog w A R s h => by
    cases s with
    | mk hp gs dr tk os =>
    obtain ⟨KX, h⟩ := h
    have kinds := And.intro PySem.W.KIN.str_int (And.intro PySem.W.KIN.str_idx PySem.W.KIN.str_trunc)
    obtain ⟨k1, k2, k3⟩ := kinds
    have k4 := F.conv_sub_int; have k5 := F.madeHere_int
    have ofText : typeOf (.str x u) = pure (.type "str") := rfl
    have lk : PySem.W.Looks (model prog w) hp Builtin.intMaxStrDigits 4300 := looks_limit KX e
    have rd : (int_private% "readNumeral") 4300 10 (numSeenOf x) = (int_private% "Numeral.value") n ∧ ((numSeenOf x).length == (numTextOf x).length) = true := by
      rcases read4300 x (Nat.le_trans hl (by decide)) with ⟨m, g1, g2, g3⟩ | ⟨g1, _⟩
      · rw [hn] at g1; cases g1; exact ⟨g3, g2⟩
      · rw [hn] at g1; cases g1
    have all4 := PySem.W.KIN.Hid.mk (And.intro lk (And.intro h6 rd))
    clear lk h6 rd hl hn e KX
    repeat (any_goals (first | assumption | ((with_reducible show wpAny _ _ ((int_private% "intFromText") _ _ _) _ _ _); refine wp_long all4.out.1 all4.out.2.1 all4.out.2.2.1 all4.out.2.2.2 ?_) | wp_step))
    all_goals (first | exact Exists.intro _ (And.intro rfl h) | skip)
section
variable {X : Cx}
theorem call_intLong (e : PySem.W.nsIn X.K cStatics "sys.int_max_str_digits" = some none) : CallR X (.type "int") (fun vs H Q => ∃ x : Str, vs = [.str x] ∧ AllDigits x.cps.toList ∧ 640 < x.length ∧ x.length ≤ 4300 ∧ Q (.int (digitsVal x.cps.toList : Nat)) H) := by
  intro pins s σ H vs us Q I rv h
  obtain ⟨x, rfl, hd, h6, h43, q⟩ := h
  obtain ⟨u, rfl, t, rfl⟩ := rv.one
  have xl : x.cps.toList.length = x.length := by simp [Str.length]
  have ne : x.cps.toList ≠ [] := fun z => by rw [z] at xl; simp at xl; lia
  have hn := intText_digits hd ne h43
  have seen : (numSeenOf x).length = x.length := by
    rcases read4300 x (Nat.le_trans h43 (by decide)) with ⟨m, g1, g2, g3⟩ | ⟨g1, _⟩
    · have a128 : x.cps.all (· < 128) = true := by
        rw [← Array.all_toList]; refine List.all_eq_true.mpr fun c hc => ?_
        have := (hd c hc).2
        exact decide_eq_true (show c < 128 by lia)
      have g2' := eq_of_beq g2
      rw [g2']
      show (if x.cps.all (· < 128) = true then x.cps.toList else _).length = _
      rw [if_pos a128, xl]
    · rw [hn] at g1; cases g1
  exact call_int_1 (meets_long (K := X.K) e h43 (by lia) hn) ⟨I.kIn, (typeIs_int _ _ _), .int _, H, I.tok _, ⟨_, rfl⟩, q⟩
theorem op_repS : OpR X (binaryOp .Mult) (fun x y H Q => ∃ (c : Nat) (n : Int), x = .str ⟨#[c]⟩ ∧ y = .int n ∧ 0 ≤ n ∧ n ≤ 100000 ∧ ∀ z : Str, z.cps.toList = List.replicate n.toNat c → Q (.str z) H) := by
  intro pins s σ H x y v u Q I rx ry h
  obtain ⟨c, n, rfl, rfl, n0, n1, q⟩ := h
  obtain ⟨t, rfl⟩ := rx
  obtain ⟨t', rfl⟩ := ry
  have one : (⟨#[c]⟩ : Str).length = 1 := rfl
  refine PySem.P.mul_str (by rw [decide_eq_false (by lia), decide_eq_false (by lia)]; rfl) (fun a b => ?_) (fun a b => ?_) ?_
  · rw [one]
    have : (1 : Int) ≤ (2 ^ 63 - 1) / n := by
      rw [Int.le_ediv_iff_mul_le (by lia)]; lia
    lia
  · rw [one]
    exact decide_eq_false (by have := sizeLine_eq; lia)
  · by_cases a : n < 1
    · rw [if_pos a]
      have e : n = 0 := by lia
      subst e
      exact ⟨by decide, .str _, H, I.tok _, ⟨_, rfl⟩, q _ rfl⟩
    · rw [if_neg a]
      by_cases b : n = 1
      · subst b
        rw [if_pos (show ((1 : Int) == 1 || (⟨#[c]⟩ : Str).length == 0) = true from rfl)]
        exact ⟨.str _, H, I, ⟨_, rfl⟩, q _ rfl⟩
      · have nb : ¬ (n == 1 || (⟨#[c]⟩ : Str).length == 0) = true := by simp [b, one]
        rw [if_neg nb]
        have lst : ∀ (k : Nat) (acc : Array Nat), ((List.replicate k #[c]).foldl (· ++ ·) acc).toList = acc.toList ++ List.replicate k c := fun k => by
          induction k with
          | zero => intro acc; simp
          | succ k ih => intro acc; rw [List.replicate_succ, List.foldl_cons, ih, List.replicate_succ]; simp
        have l0 := lst n.toNat #[]
        refine ⟨?_, .str _, H, I.tok _, ⟨_, rfl⟩, q _ (by rw [l0]; rfl)⟩
        have ln := congrArg List.length l0
        simp only [Array.length_toList, List.length_append, List.length_replicate] at ln
        show (Array.size _) ≤ sizeLine
        rw [ln]
        have := sizeLine_eq
        simp
        lia
end
end L2
end
section
set_option maxHeartbeats 4000001
namespace L2
open PySem PySem.Spec PyProof.Rows Own
section
variable {prog : Program} {w : World} {A : Around} {E : Value → Shared → Prop} {s : Shared}
end
def upTo (n : Nat) : List V := (List.range n).map fun (i : Nat) => V.int i
theorem vals_of_items {acc : Array Value} {n : Nat} (h : ItemsOf (fun i v => ∃ t, v = Value.int (0 + i * 1) t) acc n) : Vals (upTo n) acc.toList := by
  obtain ⟨h1, h2⟩ := h
  have go : ∀ (l : List Value) (k : Nat), (∀ (j : Nat) (v : Value), l[j]? = some v → ∃ t, v = Value.int ((k + j : Nat) : Int) t) → Vals ((List.range l.length).map fun (i : Nat) => V.int ((k + i : Nat) : Int)) l := by
    intro l
    induction l with
    | nil => intro k _; exact .nil
    | cons x l ih =>
      intro k hx
      rw [List.length_cons, List.range_succ_eq_map, List.map_cons, List.map_map]
      refine .cons (by obtain ⟨t, e⟩ := hx 0 x rfl; exact ⟨t, e⟩) ?_
      have := ih (k + 1) fun j v hj => by
        obtain ⟨t, e⟩ := hx (j + 1) v (by simpa using hj)
        exact ⟨t, by rw [e]; congr 1; lia⟩
      refine cast (congrArg (fun z => Vals z l) (List.map_congr_left fun i _ => ?_)) this
      show V.int ((k + 1 + i : Nat) : Int) = V.int ((k + (i + 1) : Nat) : Int)
      congr 2; lia
  have := go acc.toList 0 fun j v hj => by
    obtain ⟨t, e⟩ := h2 j v (by simpa using hj)
    exact ⟨t, by rw [e]; congr 1; lia⟩
  rw [Array.length_toList, h1] at this
  unfold upTo
  refine cast (congrArg (fun z => Vals z acc.toList) (List.map_congr_left fun i _ => ?_)) this
  show V.int ((0 + i : Nat) : Int) = V.int (i : Int)
  rw [Nat.zero_add]
theorem upTo_len (n : Nat) : (upTo n).length = n := by simp [upTo]
section
variable {X : Cx}
def tTyRng (b : Bool) (ta : TA) : TE := fun σ H Q => ta σ H fun vs H1 => ∃ j : Nat, vs = [.int j] ∧ j ≤ 100000 ∧ ∀ l, H1 l = none → Q (.ref l) (upd H1 l (if b = true then .lst (upTo j) else .tup (upTo j)))
theorem small_of {j : Nat} (h : j ≤ 100000) : Builtin.Range.small 0 (j : Int) 1 = true := small_one (by lia) (by lia) (by lia) (by lia)
theorem size_of {j : Nat} : Builtin.Range.rangeSize 0 (j : Int) 1 = ((j : Nat) : Int) := by rw [rangeSize_one]; split <;> lia
theorem pe_lstRng {a : Expr} {ta : TA} {p p2 pos pos2 : Pos} (hc : X.calm = true) (hgl : Gl X "list") (hml : X.mg "list" = none) (hgr : Gl X "range") (hmr : X.mg "range" = none) (ha : PA X [a] ta) (hs : starEach [a] X.env = [(false, eval a X.env)] := by rfl)
    (hs2 : starEach [.Call (.Name "range" p2) [a] [] pos2] X.env = [(false, eval (.Call (.Name "range" p2) [a] [] pos2) X.env)] := by rfl) : PE X (.Call (.Name "list" p) [.Call (.Name "range" p2) [a] [] pos2] [] pos) (tTyRng true ta) := by
  intro pins s σ H Q I h
  refine wpAny_Call_Name_kw (ld_blt I hgl hml (u := .type "list") (by rfl) (PyProof.Rows.callWith_type1 ?_ hs2 rfl))
  rw [hs2]
  refine Calls.spliced_cons (Call_ (ld_blt I hgr hmr boot_range (PyProof.Rows.callWith_type1 (thn (ha pos2 pins s σ H _ I h) fun us s1 ⟨vs, H1, I1, r1, q1⟩ => ?_) hs rfl)))
  obtain ⟨j, rfl, hj, q⟩ := q1
  obtain ⟨u, rfl, t, rfl⟩ := r1.one
  refine call_range_1 (Calls.spliced_nil ?_)
  refine call_list_range (n := j) (I1.ok.hd hc) (IsRange.new ..) (small_of hj) size_of (Nat.le_trans hj (by decide)) fun h' tk acc' c' kk e it => ?_
  have k2 : ∀ b o, s1.heap.get? b = some o → h'.get? b = some o := fun b o z => kk b o (Heap.get?_push_of_some _ z)
  refine ⟨.ref _, _, I1.laid (t' := tk) (o := .lst (upTo j)) k2 ?_ ⟨by rw [upTo_len]; exact Nat.le_trans hj (by decide), acc'.toList, c', vals_of_items it, by simpa using e⟩, rfl, q _ (I1.hok.fresh ?_)⟩
  all_goals (show s1.heap.objs.size ≤ (s1.heap.push _).objs.size; rw [Heap.size_push]; exact Nat.le_succ _)
theorem op_neE (hu : X.A.units < cLine) : OpR X (compareOp .NotEq) (fun x y H Q => ∃ a b xs, x = .ref a ∧ y = .ref b ∧ SqL X.K H a xs ∧ SqL X.K H b [] ∧ Q (.bl (!xs.isEmpty)) H) := by
  intro pins s σ H x y v u Q I rx ry h
  obtain ⟨a, b, xs, rfl, rfl, ha, hb, q⟩ := h
  cases rx; cases ry
  obtain ⟨its, r1, p1, _⟩ := I.list ha
  obtain ⟨jts, r2, p2, _⟩ := I.list hb
  cases r2
  have l1 := r1.length
  cases xs with
  | nil =>
    cases r1
    exact SeqAt.RcNeAt.lists (e := fun _ => true) p1.isList p2.isList rfl hu (fun j h => absurd h (Nat.not_lt_zero _)) X.prog X.w _ _ ⟨.bl _, H, I, rfl, q⟩
  | cons z zs =>
    exact SeqAt.RcNeAt.lists_lengths p1.isList p2.isList (by rw [List.size_toArray, ← l1]; simp) hu X.prog X.w _ _ ⟨.bl _, H, I, rfl, q⟩
end
end L2
end
section
set_option maxHeartbeats 4000001
namespace L2
open PySem PySem.Spec PyProof.Rows Own
section
variable {prog : Program} {w : World} {A : Around} {E : Value → Shared → Prop} {s : Shared}
theorem applied_back {sl : Addr} {t : Tok} {Q : Int × Int × Nat → Shared → Prop} (hs : s.heap.IsSliceOf sl .none .none (.int (-1) t)) (h : Q (1, -1, 2) s) : wpAny (model prog w) A (Builtin.Slice.sliceApplied (.ref sl) (pure (2 : Int))) Q E s := by
  obtain ⟨os, hos, hcs, hds⟩ := id hs
  unfold Builtin.Slice.sliceApplied Builtin.Slice.sliceFields
  refine wpAny_bind (wpAny_bind (wpAny_field hos hds (x := .none) rfl (wpAny_bind (wpAny_field hos hds (x := .none) rfl (wpAny_bind (wpAny_field hos hds (x := .int (-1) t) rfl (wpAny_pure ?_)))))))
  refine wpAny_bind (slicePart_int ?_)
  show wpAny _ _ (if ((-1 : Int) == 0) = true then _ else _) _ _ s
  rw [if_neg (by decide)]
  refine wpAny_bind (slicePart_none (wpAny_bind (slicePart_none (wpAny_bind (wpAny_pure ?_)))))
  show wpAny _ _ (match Builtin.Slice.sliceAdjust none none (-1) (2 : Int) with | (lo, hi) => pure (lo, (-1 : Int), Builtin.Slice.slicePlaces lo hi (-1))) _ _ s
  have e : Builtin.Slice.sliceAdjust none none (-1) (2 : Int) = (1, -1) := by decide
  rw [e]
  have e2 : Builtin.Slice.slicePlaces (1 : Int) (-1) (-1) = 2 := by decide
  show wpAny _ _ (pure ((1 : Int), (-1 : Int), Builtin.Slice.slicePlaces (1 : Int) (-1) (-1))) _ _ s
  rw [e2]
  exact wpAny_pure h
theorem getItem_back {t sl : Addr} {x y : Value} {tk : Tok} {Q : Value → Shared → Prop} (ht : IsTup s.heap t #[x, y]) (hs : s.heap.IsSliceOf sl .none .none (.int (-1) tk)) (h : Q (.ref s.heap.objs.size) { s with heap := s.heap.push { cls := .type "tuple", data := .seq #[y, x] } }) :
    wpAny (model prog w) A (getItem (.ref t) (.ref sl)) Q E s := by
  obtain ⟨os, hos, hcs, hds⟩ := id hs
  have hTs : s.TypeIs (.ref sl) "slice" := ⟨os, hos, hcs⟩
  unfold getItem
  try with_reducible refine wpAny_holding ?_
  first | refine wpAny_bind (wpAny_pure ?_) | skip
  refine wpAny_bind (wpAny_sequenceKey ht.typeIs (by decide) (wpAny_bind (wpAny_callSpecial?_slot (name := Str.ofString "__getitem__") ht.typeIs PyProof.Rows.slot_tuple_getitem (wpAny_call_entry PyProof.Rows.slot_tuple_getitem ht.typeIs PyProof.Rows.entry_tuple_getitem ?_ (PyProof.Rows.args_tuple_getitem _ _)))))
  show wpAny _ _ (Builtin.Tuple.tupleItemsOf (.ref t) >>= _) _ _ s
  refine wpAny_bind (tupleItemsOf_ ht (wpAny_bind (wpAny_typeOf hTs ?_)))
  rw [if_pos (by decide)]
  refine wpAny_bind (applied_back hs ?_)
  show wpAny _ _ (if ((1 : Int) == 0 && (-1 : Int) == 1 && (2 : Nat) == 2) = true then _ else _) _ _ s
  rw [if_neg (by decide)]
  have pk : ((List.range 2).filterMap fun (k : Nat) => (#[x, y] : Array Value)[((1 : Int) + (k : Int) * (-1)).toNat]?).toArray = #[y, x] := rfl
  rw [pk]
  first
    | exact wpAny_bind (m := Builtin.Tuple.tupleExact _) (wpAny_newObj_type (wpAny_pure ⟨_, rfl, wpAny_pure h⟩) (by show 2 ≤ sizeLine; decide))
    | exact wpAny_bind (m := Builtin.Tuple.tupleExact _) (wpAny_newObj_type (wpAny_bind (wpAny_pure (wpAny_pure ⟨_, rfl, wpAny_pure h⟩))) (by show 2 ≤ sizeLine; decide))
    | exact wpAny_bind (wpAny_bind (m := Builtin.Tuple.tupleExact _) (wpAny_newObj_type (wpAny_pure (wpAny_pure ⟨_, rfl, wpAny_pure h⟩)) (by show 2 ≤ sizeLine; decide)))
    | exact wpAny_bind (wpAny_bind (m := Builtin.Tuple.tupleExact _) (wpAny_newObj_type (wpAny_pure ⟨_, rfl, wpAny_pure h⟩) (by show 2 ≤ sizeLine; decide)))
end
section
variable {X : Cx}
end
end L2
end
section
set_option maxHeartbeats 4000001
namespace L2
open PySem PySem.Spec PyProof.Rows Own
theorem meets_tidx (l : Addr) (o : Obj) (items : Array Value) (n : Nat) (x : Value) (j : Nat) (hc : o.cls = .type "tuple") (hd : o.data = .seq items n) (e : Nat → Bool) (h0 : ∀ i, i < j → e i = false) (h1 : e j = true) (hj : j < items.size) :
    Meets (Builtin.«tuple.index» ⟨[.ref l, x], []⟩) (fun A R s => s.heap.get? l = some o ∧ (∀ i (h : i < items.size), SeqAt.EqAt A.in1 s items[i] x (e i)) ∧ R (.ok (.ret (.int j s.toks))) { s with toks := s.toks + 1 }) :=
  .of_wp fun prog w A R s h => by
    cases s with
    | mk hp gs dr tk os =>
    obtain ⟨hl, he, h⟩ := h
    unfold Builtin.«tuple.index»
    simp only [Std.Legacy.Range.forIn_eq_forIn_range']
    wp_walk using wpAny_seqItems hl hd, wpAny_forIn_list _ (fun rest b s' => s' = ⟨hp, gs, dr, tk, os⟩ ∧ b.1 = none ∧ ∃ i, i ≤ j ∧ rest = List.range' i (items.size - i)) _
    case turn =>
      rintro i rest b s' ⟨rfl, hb, i', hi, hz⟩
      have hs : items.size - i' = (items.size - (i' + 1)) + 1 := by lia
      rw [hs, List.range'_succ] at hz
      injection hz with e1 e2
      subst e1
      have il : i < items.size := by lia
      have hg : items[i]? = some items[i] := by simp [il]
      simp only [hg]
      refine wpAny_bind (he i il prog w _ _ ?_)
      by_cases q : i = j
      · subst q; rw [h1]; wp_walk; exact ⟨_, rfl, h⟩
      · rw [h0 i (by lia)]; wp_walk; exact ⟨rfl, rfl, i + 1, by lia, e2⟩
    case fin =>
      rintro b s' ⟨rfl, hb, i', hi, hz⟩
      have := congrArg List.length hz
      simp at this
      lia
    case h => exact ⟨rfl, rfl, 0, Nat.zero_le _, by simp [Std.Legacy.Range.size]⟩
section
variable {X : Cx}
theorem idx_before : ∀ {ns : List Int} {k : Int} {i : Nat}, i < ns.idxOf k → (ns.getD i 0 == k) = false
  | [], k, i, h => by simp at h
  | n :: ns, k, i, h => by
    rw [List.idxOf_cons] at h
    cases e : n == k with
    | true => rw [e] at h; simp at h
    | false =>
      rw [e] at h
      simp only [cond_false] at h
      cases i with
      | zero => exact e
      | succ i => exact idx_before (ns := ns) (i := i) (by lia)
def tTidx (to : TE) (t : TA) : TE := fun σ H Q => to σ H fun x H1 => ∃ a ns, x = .ref a ∧ H1 a = some (.tup (List.map V.int ns)) ∧ t σ H1 fun vs H2 => ∃ k : Int, vs = [.int k] ∧ H2 a = some (.tup (List.map V.int ns)) ∧ k ∈ ns ∧ Q (.int (ns.idxOf k : Nat)) H2
theorem pe_tidx {o e : Expr} {to : TE} {t : TA} {apos cpos : Pos} (hu : X.A.units + 64 < cLine) (ho : PE X o to) (ha : PA X [e] t)
    (hbase : attributeBase o "index" X.env (eval o X.env) = eval o X.env := by rfl)
    (hfew : ((backTo cpos (starEach [e] X.env)).all (fun x => !x.1) && (backToKw cpos (keywordEach [] X.env)).all (fun x => x.1.isSome) && decide ([e].length + ([] : List Keyword).length + (if ([] : List Keyword).isEmpty then 0 else 1) < 30)) = true := by rfl)
    (hline : (apos.endLine == cpos.line) = true := by rfl) (hs : starEach [e] X.env = (false, eval e X.env) :: starEach [] X.env := by rfl) : PE X (.Call (.Attribute o "index" apos) [e] [] cpos) (tTidx to t) := by
  intro pins s σ H Q I h
  refine wpAny_Call_method_late hbase hfew hline rfl (thn (ho pins s σ H _ I h) fun v s1 ⟨x, H1, I1, r1, a, ns, ex, hx, q1⟩ => ?_)
  subst ex
  cases r1
  obtain ⟨_, its, _, ⟨ob, eo, c1, n1, d1, nd⟩⟩ := (show ObjOk X.prog X.w H1 s1.heap a (.tup (List.map V.int ns)) from I1.hok a _ hx)
  refine ⟨"tuple", "tuple.index", PySem.F.plainAttrs_tuple, PySem.F.slot_tuple_index, PySem.F.type_tuple_index, ⟨ob, eo, c1⟩, fun a' e' => by cases e'; exact ⟨ob, eo, nd⟩, ?_⟩
  have hA := ha cpos pins s1 σ H1 _ I1 q1
  rw [hs] at hA ⊢
  refine Calls.callWith_builtin rfl (Calls.evalArgs_plain ?_)
  refine thn hA fun us s2 ⟨vs, H2, I2, r2, k, ev, hx2, km, q⟩ => ?_
  subst ev
  obtain ⟨u, rfl, tk, rfl⟩ := r2.one
  obtain ⟨_, jts, rj, ⟨ob2, eo2, c2, n2, d2, nd2⟩⟩ := (show ObjOk X.prog X.w H2 s2.heap a (.tup (List.map V.int ns)) from I2.hok a _ hx2)
  have hlen : jts.toArray.size = ns.length := by rw [List.size_toArray, ← rj.length, List.length_map]
  have hj := List.idxOf_lt_length_of_mem km
  refine call_meets PySem.F.slot_tuple_index ⟨ob2, eo2, c2⟩ PySem.F.entry_tuple_index (PySem.F.args_tuple_index_2 _ _)
    (meets_tidx a ob2 jts.toArray n2 (.int k tk) (ns.idxOf k) c2 d2 (fun i => ns.getD i 0 == k) (fun i hi => ?_) ?_ (by rw [hlen]; exact hj)) ⟨eo2, fun i hi => ?_, ?_⟩
  · exact idx_before hi
  · rw [List.getD_eq_getElem?_getD, List.getElem?_eq_getElem hj]
    simp
  · have hi' : i < ns.length := by rw [← hlen]; exact hi
    obtain ⟨w1, e1, t1, rfl⟩ := rj.get (show (List.map V.int ns)[i]? = some (V.int (ns.getD i 0)) by rw [List.getElem?_map, List.getD_eq_getElem?_getD, List.getElem?_eq_getElem hi']; rfl)
    have g1 : jts.toArray[i] = .int (ns.getD i 0) t1 := by simpa using (List.getElem?_eq_some_iff.mp e1).2
    rw [g1]
    exact (MeetsSeq.EqGives.int _ _ _ _).at _ _
  · exact ⟨.int _, H2, I2.tok _, ⟨_, rfl⟩, q⟩
end
end L2
end
section
set_option maxHeartbeats 4000001
namespace L2
open PySem PySem.Spec PyProof.Rows Own
theorem noFill_tmul : fillsNumberSlot (.type "tuple") "mul" = pure false :=
  PySem.fillsNumberSlot_seq (id := "tuple.__mul__") (r := some (.builtin "tuple.__rmul__")) F.slot_tuple_mul.lookup (by decide +kernel) F.slot_tuple_rmul.lookup (by decide +kernel)
theorem repeat_tup : seqRepeat? (.type "tuple") = pure (some (.builtin "tuple.__mul__")) := by
  unfold seqRepeat?; rw [PySem.seqSlot_of (T := "tuple") (name := "__mul__") (id := "tuple.__mul__") F.slot_tuple_mul.lookup (by decide +kernel), PySem.seqSlot_of (T := "tuple") (name := "__rmul__") (id := "tuple.__rmul__") F.slot_tuple_rmul.lookup (by decide +kernel)]; rfl
theorem declines (a : Int) (t : Tok) (l : Addr) (dd : Option Addr) (sl : Array (Option Value)) (items : Array Value) (n : Nat) :
    Meets (Builtin.«int.__rmul__» ⟨[.int a t, .ref l], []⟩) (fun _ R s => s.heap.get? l = some { cls := .type "tuple", dict := dd, data := .seq items n, slots := sl } ∧ R (.ok (.ret Value.notImplemented)) s) :=
  .of_wp fun prog w A R s h => by
    cases s; obtain ⟨hl, h⟩ := h
    wp_walk using AutoSeq1.wpAny_loadPart' hl
    exact ⟨_, rfl, h⟩
theorem meets_tmul (l : Addr) (o : Obj) (x : Value) (n k : Nat) (t : Tok) (hc : o.cls = .type "tuple") (hd : o.data = .seq #[x] n) (hk : k ≤ 100000) :
    Meets (Builtin.«tuple.__mul__» ⟨[.ref l, .int k t], []⟩) (fun _ R s => s.heap.get? l = some o ∧
      (k = 1 → R (.ok (.ret (.ref l))) s) ∧ (k ≠ 1 → R (.ok (.ret (.ref s.heap.objs.size))) { s with heap := s.heap.push { cls := .type "tuple", data := .seq (List.replicate k x).toArray } })) :=
  .of_wp fun prog w A R s h => by
    cases s with
    | mk hp gs dr tk os =>
    obtain ⟨hl, g1, g2⟩ := h
    have ty : Shared.TypeIs ⟨hp, gs, dr, tk, os⟩ (.ref l) "tuple" := ⟨o, hl, hc⟩
    wp_walk using wpAny_seqItems hl hd, wpAny_typeOf ty
    have c1 : ¬ (decide ((k : Int) < -2 ^ 63) || decide ((k : Int) ≥ 2 ^ 63)) = true := by
      rw [decide_eq_false (by lia), decide_eq_false (by lia)]; exact Bool.false_ne_true
    rw [if_neg c1]
    wp_walk using wpAny_seqItems hl hd, wpAny_typeOf ty
    by_cases k1 : k = 1
    · have c2 : ((#[x] : Array Value).isEmpty || (k : Int) == 1) = true := by subst k1; rfl
      rw [if_pos c2]
      wp_walk using wpAny_typeOf ty
      exact ⟨_, rfl, g1 k1⟩
    · have c2 : ¬ ((#[x] : Array Value).isEmpty || (k : Int) == 1) = true := by
        have : ((k : Int) == 1) = false := by rw [beq_eq_false_iff_ne]; lia
        rw [this]; exact Bool.false_ne_true
      rw [if_neg c2]
      have fl : ∀ (m : Nat) (acc : Array Value), (List.foldl (fun x1 x2 => x1 ++ x2) acc (List.replicate m #[x])) = acc ++ (List.replicate m x).toArray := fun m => by
        induction m with
        | zero => intro acc; simp
        | succ m ih => intro acc; rw [List.replicate_succ, List.foldl_cons, ih, List.replicate_succ]; apply Array.ext'; simp
      by_cases k0 : k = 0
      · subst k0
        have c3 : (decide (((0 : Nat) : Int) ≤ 0) || (#[x] : Array Value).isEmpty) = true := rfl
        rw [if_pos c3]
        wp_walk
        exact ⟨_, rfl, g2 (by decide)⟩
      · have c3 : ¬ (decide ((k : Int) ≤ 0) || (#[x] : Array Value).isEmpty) = true := by
          rw [decide_eq_false (by lia)]; exact Bool.false_ne_true
        have c4 : ¬ (((#[x] : Array Value).size : Int) * (k : Int) > (2 ^ 63 - 1) / 8) := by
          show ¬ ((1 : Int) * (k : Int) > (2 ^ 63 - 1) / 8)
          lia
        have c5 : ¬ Builtin.Tuple.tupleTooMany (((#[x] : Array Value).size : Int) * (k : Int)) = true := by
          unfold Builtin.Tuple.tupleTooMany
          show ¬ decide ((1 : Int) * (k : Int) > (sizeLine : Int)) = true
          rw [decide_eq_false (by rw [sizeLine_eq]; lia)]; exact Bool.false_ne_true
        rw [if_neg c3, if_neg c4, if_neg c5, Int.toNat_natCast, fl]
        refine wpAny_bind (m := Builtin.Tuple.tupleExact _) (wpAny_newObj_type (wpAny_pure ⟨_, rfl, ?_⟩) ?_)
        · have e : (#[] ++ (List.replicate k x).toArray : Array Value) = (List.replicate k x).toArray := by simp
          rw [e]; exact g2 k1
        · show (#[] ++ (List.replicate k x).toArray : Array Value).size ≤ sizeLine
          rw [sizeLine_eq]; simp; lia
section
variable {X : Cx}
theorem Vals.same {v : V} {u : Value} (r : RelV v u) : ∀ k : Nat, Vals (List.replicate k v) (List.replicate k u)
  | 0 => .nil
  | k + 1 => by rw [List.replicate_succ, List.replicate_succ]; exact .cons r (Vals.same r k)
theorem op_rep1 : OpR X (binaryOp .Mult) (fun x y H Q => ∃ a v, ∃ k : Nat, x = .ref a ∧ y = .int k ∧ H a = some (.tup [v]) ∧ k ≤ 100000 ∧ ∀ r H', Same H H' → H' r = some (.tup (List.replicate k v)) → Q (.ref r) H') := by
  intro pins s σ H x y vx vy Q I rx ry h
  obtain ⟨a, v, k, rfl, rfl, ha, hk, q⟩ := h
  cases rx
  obtain ⟨t, rfl⟩ := ry
  obtain ⟨_, its, r, ⟨⟨c, dd, d, sl⟩, eo, c1, n1, d1, nd⟩⟩ := (show ObjOk X.prog X.w H s.heap a (.tup [v]) from I.hok a _ ha)
  simp only at c1 d1 nd
  subst c1 d1 nd
  obtain ⟨u, rfl, ru⟩ := r.one
  refine wpAny_binaryOp_repeat_ref (T := "tuple") (U := "int") (by decide) ⟨_, eo, rfl⟩ (fun s' => typeIs_int s' k t) noFill_tmul F.fills_int_mul F.slot_int_rmul repeat_tup F.slot_int_index.lookup
    (call_meets F.slot_int_rmul (typeIs_int s k t) F.entry_int_rmul (F.args_int_rmul_2 _ _) (declines k t a none sl _ n1)
      ⟨eo, rfl, ⟨_, eo, rfl⟩, call_meets F.slot_tuple_mul ⟨_, eo, rfl⟩ F.entry_tuple_mul (F.args_tuple_mul_2 _ _) (meets_tmul a _ u n1 k t rfl rfl hk) ⟨eo, fun e => ?_, fun e => ?_⟩⟩)
  · subst e
    exact ⟨.ref a, H, I, rfl, q a H (Same.refl H) ha⟩
  · have hz : (List.replicate k v).length ≤ sizeLine := by rw [List.length_replicate, sizeLine_eq]; lia
    exact ⟨.ref s.heap.objs.size, _, I.laid (t' := s.toks) (o := .tup (List.replicate k v)) (fun b ob z => Heap.get?_push_of_some _ z) (Nat.le_refl _) ⟨hz, _, Vals.same ru k, TupX.new _ _⟩, rfl, q _ _ (same_new (I.hok.fresh (Nat.le_refl _)) _) upd_same⟩
end
end L2
end
section
set_option maxHeartbeats 4000001
namespace Bn
open PySem L2 Own
def Tups (H H' : Hp) : Prop := ∀ a xs, H a = some (.tup xs) → H' a = some (.tup xs)
theorem Tups.trans {H H1 H2 : Hp} (x : Tups H H1) (y : Tups H1 H2) : Tups H H2 := fun a xs e => y a xs (x a xs e)
theorem Tups.of {H H' : Hp} (s : Same H H') : Tups H H' := fun a _ e => s a _ e
theorem Tups.lst {H : Hp} {l : Addr} {xs ys : List V} (h : H l = some (.lst xs)) : Tups H (upd H l (.lst ys)) := fun a zs e => by
  rw [upd_ne (by rintro rfl; rw [h] at e; cases e)]; exact e
def But (l : Addr) (H H' : Hp) : Prop := ∀ b o, H b = some o → b ≠ l → H' b = some o
theorem But.trans {l : Addr} {H H1 H2 : Hp} (x : But l H H1) (y : But l H1 H2) : But l H H2 := fun b o e n => y b o (x b o e n) n
theorem But.of {l : Addr} {H H1 : Hp} (x : Same H H1) : But l H H1 := fun b o e _ => x b o e
structure PkAt (H : Hp) (l : Addr) : Prop where
  ex : ∃ a b : Int, H l = some (.lst [.int a, .int b]) ∧ 0 ≤ a ∧ 0 ≤ b ∧ b < 2 ^ 31
theorem PkAt.keep {H H' : Hp} {l : Addr} (S : PkAt H l) (s : Same H H') : PkAt H' l := by
  obtain ⟨a, b, h, r⟩ := S.ex
  exact ⟨a, b, s _ _ h, r⟩
theorem PkAt.ne {H : Hp} {l p : Addr} (S : PkAt H l) (h : H p = none) : l ≠ p := by
  obtain ⟨a, b, e, _⟩ := S.ex
  exact ne_of_none e h
theorem PkAt.upd {H : Hp} {l p : Addr} {o : HO} (S : PkAt H l) (h : l ≠ p) : PkAt (upd H p o) l := by
  obtain ⟨a, b, e, r⟩ := S.ex
  exact ⟨a, b, by rw [upd_ne h]; exact e, r⟩
theorem But.tups {H H' : Hp} {l : Addr} (x : But l H H') (S : PkAt H l) : Tups H H' := fun a xs e => x a _ e (by
  rintro rfl
  obtain ⟨_, _, z, _⟩ := S.ex
  rw [z] at e; cases e)
def Prs (H : Hp) : List V → List (Nat × Nat) → Prop
  | [], [] => True
  | p :: ps, f :: fs => (∃ a, p = .ref a ∧ H a = some (.tup [.int f.1, .int f.2])) ∧ Prs H ps fs
  | _, _ => False
theorem Prs.tups {H H' : Hp} (t : Tups H H') : ∀ {ps : List V} {fs : List (Nat × Nat)}, Prs H ps fs → Prs H' ps fs
  | [], [], _ => trivial
  | _ :: _, _ :: _, ⟨⟨a, e, h⟩, r⟩ => ⟨⟨a, e, t _ _ h⟩, r.tups t⟩
theorem Prs.len {H : Hp} : ∀ {ps : List V} {fs : List (Nat × Nat)}, Prs H ps fs → ps.length = fs.length
  | [], [], _ => rfl
  | _ :: _, _ :: _, ⟨_, r⟩ => congrArg (· + 1) r.len
theorem Prs.add {H : Hp} {a : Addr} {f : Nat × Nat} (h : H a = some (.tup [.int f.1, .int f.2])) : ∀ {ps : List V} {fs : List (Nat × Nat)}, Prs H ps fs → Prs H (ps ++ [.ref a]) (fs ++ [f])
  | [], [], _ => ⟨⟨a, rfl, h⟩, trivial⟩
  | _ :: _, _ :: _, ⟨x, r⟩ => ⟨x, r.add h⟩
theorem Prs.get {H : Hp} : ∀ {ps : List V} {fs : List (Nat × Nat)} {i : Nat} {p : V}, Prs H ps fs → ps[i]? = some p → ∃ a f, p = .ref a ∧ fs[i]? = some f ∧ H a = some (.tup [.int f.1, .int f.2])
  | [], [], _, _, _, e => by simp at e
  | _ :: _, f :: _, 0, p, ⟨⟨a, e1, h⟩, _⟩, e => by
    have : _ = p := Option.some.inj e
    subst this
    exact ⟨a, f, e1, rfl, h⟩
  | _ :: _, _ :: _, i + 1, p, ⟨_, r⟩, e => r.get (i := i) (by simpa using e)
structure Nt where
  lanes : Nat
  forks : List (Nat × Nat)
  ends : List Nat
structure Nt.Ok (N : Nt) : Prop where
  l1 : 1 ≤ N.lanes
  l16 : N.lanes ≤ 16
  fm : N.forks.length ≤ 128
  fk : ∀ f ∈ N.forks, f.1 < N.lanes ∧ f.2 < N.lanes ∧ f.1 ≠ f.2
  en : N.ends.Perm (List.range N.lanes)
def nums (es : List Nat) : List V := es.map fun (e : Nat) => V.int e
structure NetAt (H : Hp) (r fr er : Addr) (ps : List V) (N : Nt) : Prop where
  net : H r = some (.tup [.int N.lanes, .ref fr, .ref er])
  forks : H fr = some (.tup ps)
  prs : Prs H ps N.forks
  ends : H er = some (.tup (nums N.ends))
theorem NetAt.tups {H H' : Hp} {r fr er : Addr} {ps : List V} {N : Nt} (t : Tups H H') (h : NetAt H r fr er ps N) : NetAt H' r fr er ps N := ⟨t _ _ h.net, t _ _ h.forks, h.prs.tups t, t _ _ h.ends⟩
def stepF (st : List Int × List Int) (f : Nat × Nat) : List Int × List Int :=
  ((st.1.set f.1 ((st.1.getD f.1 0 + st.1.getD f.2 0 + 1) / 2)).set f.2 ((st.1.getD f.1 0 + st.1.getD f.2 0) / 2), st.2 ++ [(st.1.getD f.1 0 + st.1.getD f.2 0) % 2])
def flowFrom (st : List Int × List Int) (fs : List (Nat × Nat)) : List Int × List Int := fs.foldl stepF st
def flow (fs : List (Nat × Nat)) (cs : List Int) : List Int × List Int := flowFrom (cs, []) fs
def endsM (N : Nt) (cs : List Int) : List Int := N.ends.map fun e => (flow N.forks cs).1.getD e 0
def turnsM (N : Nt) (cs : List Int) : List Int := (flow N.forks cs).2
theorem flow_snoc (fs : List (Nat × Nat)) (f : Nat × Nat) (cs : List Int) : flow (fs ++ [f]) cs = stepF (flow fs cs) f := by
  unfold flow flowFrom; rw [List.foldl_append]; rfl
theorem stepF_len (st : List Int × List Int) (f : Nat × Nat) : (stepF st f).1.length = st.1.length := by simp [stepF]
theorem flowFrom_len : ∀ (fs : List (Nat × Nat)) (st : List Int × List Int), (flowFrom st fs).1.length = st.1.length ∧ (flowFrom st fs).2.length = st.2.length + fs.length
  | [], st => ⟨rfl, rfl⟩
  | f :: fs, st => by
    have h := flowFrom_len fs (stepF st f)
    refine ⟨h.1.trans (stepF_len st f), h.2.trans ?_⟩
    simp [stepF]; lia
theorem flow_len (fs : List (Nat × Nat)) (cs : List Int) : (flow fs cs).1.length = cs.length := (flowFrom_len fs (cs, [])).1
theorem flow_take {fs : List (Nat × Nat)} {i : Nat} {f : Nat × Nat} (h : fs[i]? = some f) (cs : List Int) : flow (fs.take (i + 1)) cs = stepF (flow (fs.take i) cs) f := by
  have w := List.getElem?_eq_some_iff.mp h; obtain ⟨hi, e⟩ := w
  rw [List.take_succ_eq_append_getElem hi, flow_snoc, e]
theorem sum_set : ∀ (xs : List Int) (i : Nat) (a : Int), i < xs.length → (xs.set i a).sum = xs.sum - xs.getD i 0 + a
  | [], i, a, h => by simp at h
  | x :: xs, 0, a, _ => by simp; lia
  | x :: xs, i + 1, a, h => by
    have := sum_set xs i a (by simpa using h)
    simp only [List.set_cons_succ, List.sum_cons, this, List.getD_cons_succ]
    lia
theorem set_getD {xs : List Int} {i p : Nat} {a : Int} (h : p < xs.length) : (xs.set i a).getD p 0 = if i = p then a else xs.getD p 0 := by
  rw [List.getD_eq_getElem?_getD, List.getElem?_set]
  by_cases e : i = p
  · subst e; simp [h]
  · simp [e]
theorem halves (c : Int) : (c + 1) / 2 + c / 2 = c := by lia
theorem stepF_sum {st : List Int × List Int} {f : Nat × Nat} (h1 : f.1 < st.1.length) (h2 : f.2 < st.1.length) (ne : f.1 ≠ f.2) : (stepF st f).1.sum = st.1.sum := by
  unfold stepF
  simp only
  rw [sum_set _ _ _ (by rw [List.length_set]; exact h2), sum_set _ _ _ h1, set_getD h2, if_neg ne]
  have := halves (st.1.getD f.1 0 + st.1.getD f.2 0)
  lia
theorem flowFrom_sum : ∀ (fs : List (Nat × Nat)) (st : List Int × List Int), (∀ f ∈ fs, f.1 < st.1.length ∧ f.2 < st.1.length ∧ f.1 ≠ f.2) → (flowFrom st fs).1.sum = st.1.sum
  | [], st, _ => rfl
  | f :: fs, st, h => by
    have hf := h f List.mem_cons_self
    have := flowFrom_sum fs (stepF st f) fun g hg => by
      rw [stepF_len]; exact h g (List.mem_cons_of_mem _ hg)
    exact this.trans (stepF_sum hf.1 hf.2.1 hf.2.2)
theorem sum_perm {xs ys : List Int} (h : xs.Perm ys) : xs.sum = ys.sum := by
  induction h with
  | nil => rfl
  | cons x _ ih => simp [ih]
  | swap x y l => simp; lia
  | trans _ _ a b => exact a.trans b
theorem map_range_getD (xs : List Int) : (List.range xs.length).map (fun e => xs.getD e 0) = xs := by
  refine List.ext_getElem (by simp) fun i h1 h2 => ?_
  rw [List.getElem_map, List.getElem_range, List.getD_eq_getElem?_getD, List.getElem?_eq_getElem h2]; rfl
theorem ends_sum {N : Nt} (ok : N.Ok) {cs : List Int} (h : cs.length = N.lanes) : (endsM N cs).sum = cs.sum := by
  unfold endsM
  rw [sum_perm (ok.en.map _)]
  have e : N.lanes = (flow N.forks cs).1.length := by rw [flow_len, h]
  rw [e, map_range_getD]
  exact flowFrom_sum N.forks (cs, []) fun f hf => by
    have := ok.fk f hf
    simp only [h]; exact this
theorem ends_len {N : Nt} (ok : N.Ok) : N.ends.length = N.lanes := by rw [ok.en.length_eq, List.length_range]
theorem at_int {cs : List Int} {i : Nat} (h : i < cs.length) : atI (cs.map V.int) ((i : Nat) : Int) = some (.int (cs.getD i 0)) := by
  refine atI_nat ?_
  rw [List.getElem?_map, List.getD_eq_getElem?_getD, List.getElem?_eq_getElem h]; rfl
theorem ix_at {α : Type} {xs : List α} {i : Nat} (h : i < xs.length) : ixN xs.length ((i : Nat) : Int) = some i := by
  unfold ixN
  rw [if_pos (by lia), if_pos (by lia)]; simp
structure Mgs (mg : Str → Option Value) : Prop where
  len : mg "len" = none
  range : mg "range" = none
  tuple : mg "tuple" = none
  enum : mg "enumerate" = none
  abs : mg "abs" = none
  zip : mg "zip" = none
  isi : mg "isinstance" = none
  all : mg "all" = none
  sum : mg "sum" = none
  bool : mg "bool" = none
  int : mg "int" = none
  str : mg "str" = none
  max : mg "max" = none
  min : mg "min" = none
  sorted : mg "sorted" = none
  list : mg "list" = none
structure Use (P : Program) (w : World) (K : PySem.W.Frag) (mg : Str → Option Value) (base : Heap) (x : Str) (ps : List Str) (k : Nat) (sp : Sp) (f : Addr) (fd : FuncData) : Prop where
  ok : FnOk P w K mg base CX0 k f fd ps sp
  b : Binds K fd ps []
  kp : PySem.W.keepIn K (.ref f) = true
  m : mg x = some (.ref f)
def spCell (K : PySem.W.Frag) : Sp := fun vs H Q _ => ∃ (a : Addr) (ns : List Int) (k : Int), vs = [.ref a, .int k] ∧ SqL K H a (ns.map V.int) ∧ 0 ≤ k ∧ ∀ x : Int, Q (.int x) H
def spLeft (K : PySem.W.Frag) : Sp := fun vs H Q _ => ∃ (a : Addr) (ns : List Int) (k : Int), vs = [.ref a, .int k] ∧ SqL K H a (ns.map V.int) ∧ ns.length ≤ 63 ∧ 0 ≤ k ∧ k ≤ 1000 ∧ ∀ l H', H l = none → Same H H' → PkAt H' l → Q (.ref l) H'
def spPick : Sp := fun vs H Q _ => ∃ (l : Addr) (m : Int), vs = [.ref l, .int m] ∧ 0 < m ∧ m < 1073741824 ∧ PkAt H l ∧ ∀ (v : Nat) H', (v : Int) < m → PkAt H' l → But l H H' → Q (.int v) H'
def Frs (l : Addr) (H : Hp) (x : Addr) : Prop := ∀ b o, H b = some o → b ≠ l → b ≠ x
theorem But.frs {l x : Addr} {H H1 : Hp} (B : But l H H1) (h : H1 x = none) : Frs l H x := fun b o e n => ne_of_none (B b o e n) h
theorem But.upd {l x : Addr} {H H1 : Hp} {o : HO} (B : But l H H1) (f : Frs l H x) : But l H (upd H1 x o) := fun b u e n => by rw [upd_ne (f b u e n)]; exact B b u e n
theorem But.new {l x : Addr} {H H1 : Hp} {o : HO} (B : But l H H1) (h : H1 x = none) : But l H (L2.upd H1 x o) := B.upd (B.frs h)
theorem nums_len (es : List Nat) : (nums es).length = es.length := by simp [nums]
theorem other_ok {one d lanes : Nat} (h1 : one < lanes) (h2 : d + 1 < lanes) : (one + 1 + d) % lanes < lanes ∧ one ≠ (one + 1 + d) % lanes := by
  refine ⟨Nat.mod_lt _ (by lia), fun e => ?_⟩
  by_cases z : one + 1 + d < lanes
  · rw [Nat.mod_eq_of_lt z] at e; lia
  · rw [Nat.mod_eq_sub_mod (by lia), Nat.mod_eq_of_lt (by lia)] at e; lia
theorem ones_pos (k : Nat) : 0 < PySem.NumText.digitsVal (49 :: List.replicate k 48) := by
  unfold PySem.NumText.digitsVal
  have go : ∀ (k acc : Nat), 0 < acc → 0 < (List.replicate k 48).foldl (fun acc c => acc * 10 + (c - 48)) acc := fun k => by
    induction k with
    | zero => intro acc h; exact h
    | succ k ih => intro acc h; rw [List.replicate_succ, List.foldl_cons]; exact ih _ (by lia)
  rw [List.foldl_cons]
  exact go k _ (by decide)
theorem long_ok {z : Str} {k : Nat} (hz : z.cps.toList = List.replicate k 48) : PySem.NumText.AllDigits ((("1" : Str) ++ z).cps.toList) ∧ (("1" : Str) ++ z).length = k + 1 ∧ 0 < PySem.NumText.digitsVal ((("1" : Str) ++ z).cps.toList) := by
  have e : (("1" : Str) ++ z).cps.toList = 49 :: List.replicate k 48 := by
    show ((("1" : Str).cps ++ z.cps).toList) = _
    rw [Array.toList_append, hz]; rfl
  refine ⟨?_, ?_, ?_⟩
  · rw [e]
    intro c hc
    rcases List.mem_cons.mp hc with q | q
    · lia
    · have := List.eq_of_mem_replicate q; lia
  · have := congrArg List.length e
    rw [Array.length_toList] at this
    show (("1" : Str) ++ z).cps.size = k + 1
    rw [this, List.length_cons, List.length_replicate]
  · rw [e]; exact ones_pos k
end Bn
end
section
set_option maxHeartbeats 4000001
namespace L2
open PySem PySem.Spec PyProof.Rows Own
def DEq (K : PySem.W.Frag) (H : Hp) : Nat → V → V → Prop
  | 0, x, y => x = y ∧ flatV x = true
  | n + 1, x, y => (x = y ∧ flatV x = true) ∨ ∃ a b xs ys, x = .ref a ∧ y = .ref b ∧ SqT K H a xs ∧ SqT K H b ys ∧ xs.length = ys.length ∧ ∀ (i : Nat) (u v : V), xs[i]? = some u → ys[i]? = some v → DEq K H n u v
section
variable {X : Cx}
theorem eqV_self {x : V} (h : flatV x = true) : eqV x x = true := by
  cases x <;> first | rfl | (simp [eqV]; done) | exact absurd (show false = true from h) Bool.false_ne_true
theorem all_true (n : Nat) : (List.range n).all (fun _ => true) = true := by rw [List.all_eq_true]; intro _ _; rfl
theorem eqAt_flat {A : Around} {s : Shared} {x : V} {u v : Value} (f : flatV x = true) (r1 : RelV x u) (r2 : RelV x v) : SeqAt.EqAt A s u v true := by
  have := eqAt_V (A := A) (s := s) r1 r2 f f
  rwa [eqV_self f] at this
theorem eqAt_D {pins : List (Addr × Obj)} {σ : St} {H : Hp} {s : Shared} (I : Inv X pins σ H s) : ∀ (n : Nat) (A : Around) (x y : V) (u v : Value), A.units + n < cLine → DEq X.K H n x y → RelV x u → RelV y v → SeqAt.EqAt A s u v true
  | 0, A, x, y, u, v, _, ⟨e, f⟩, r1, r2 => by subst e; exact eqAt_flat f r1 r2
  | n + 1, A, x, y, u, v, hu, h, r1, r2 => by
    rcases h with ⟨e, f⟩ | ⟨a, b, xs, ys, rfl, rfl, h1, h2, hl, hx⟩
    · subst e; exact eqAt_flat f r1 r2
    · cases r1; cases r2
      by_cases ab : a = b
      · subst ab; exact SeqAt.EqAt.same _
      · obtain ⟨its, g1, p1, _⟩ := I.tuple h1
        obtain ⟨jts, g2, p2, _⟩ := I.tuple h2
        have l1 := g1.length
        have l2 := g2.length
        refine SeqAt.EqAt.of_refs ab ?_
        have := SeqAt.RcAt.tuples (e := fun _ => true) p1 p2 (A := A) (s := s) (by lia) (fun j k1 k2 => ?_)
        · rw [all_true, List.size_toArray, List.size_toArray, ← l1, ← l2, hl] at this
          simpa using this
        · have k1' : j < xs.length := by simpa [l1] using k1
          have k2' : j < ys.length := by simpa [l2] using k2
          obtain ⟨w1, e1, q1⟩ := g1.get (List.getElem?_eq_getElem k1')
          obtain ⟨w2, e2, q2⟩ := g2.get (List.getElem?_eq_getElem k2')
          have z1 : its.toArray[j] = w1 := by simpa using (List.getElem?_eq_some_iff.mp e1).2
          have z2 : jts.toArray[j] = w2 := by simpa using (List.getElem?_eq_some_iff.mp e2).2
          rw [z1, z2]
          exact eqAt_D I n A.in1 _ _ _ _ (by show A.units + 1 + n < cLine; lia) (hx j _ _ (List.getElem?_eq_getElem k1') (List.getElem?_eq_getElem k2')) q1 q2
def rSameD (K : PySem.W.Frag) (c : Bool) : R2 := fun x y H Q => ∃ n a b xs ys, n ≤ 20 ∧ x = .ref a ∧ y = .ref b ∧ SqT K H a xs ∧ SqT K H b ys ∧ xs.length = ys.length ∧ (∀ (i : Nat) (u v : V), xs[i]? = some u → ys[i]? = some v → DEq K H n u v) ∧ Q (.bl c) H
theorem op_neD (hu : X.A.units + 64 < cLine) : OpR X (compareOp .NotEq) (rSameD X.K false) := by
  intro pins s σ H x y vx vy Q I rx ry h
  obtain ⟨n, a, b, xs, ys, hn, rfl, rfl, h1, h2, hl, hx, q⟩ := h
  cases rx; cases ry
  obtain ⟨its, g1, p1, _⟩ := I.tuple h1
  obtain ⟨jts, g2, p2, _⟩ := I.tuple h2
  have l1 := g1.length
  have l2 := g2.length
  refine SeqAt.RcNeAt.tuples (e := fun _ => true) p1 p2 (by lia) (fun j k1 k2 => ?_) X.prog X.w _ _ ?_
  · have k1' : j < xs.length := by simpa [l1] using k1
    have k2' : j < ys.length := by simpa [l2] using k2
    obtain ⟨w1, e1, q1⟩ := g1.get (List.getElem?_eq_getElem k1')
    obtain ⟨w2, e2, q2⟩ := g2.get (List.getElem?_eq_getElem k2')
    have z1 : its.toArray[j] = w1 := by simpa using (List.getElem?_eq_some_iff.mp e1).2
    have z2 : jts.toArray[j] = w2 := by simpa using (List.getElem?_eq_some_iff.mp e2).2
    rw [z1, z2]
    exact eqAt_D I n _ _ _ _ _ (by show X.A.units + 1 + n < cLine; lia) (hx j _ _ (List.getElem?_eq_getElem k1') (List.getElem?_eq_getElem k2')) q1 q2
  · rw [all_true, List.size_toArray, List.size_toArray, ← l1, ← l2, hl]
    refine ⟨.bl false, H, I, ?_, q⟩
    show Value.bool _ = Value.bool false
    simp
theorem op_eqD (hu : X.A.units + 64 < cLine) : OpR X (compareOp .Eq) (rSameD X.K true) := by
  intro pins s σ H x y vx vy Q I rx ry h
  obtain ⟨n, a, b, xs, ys, hn, rfl, rfl, h1, h2, hl, hx, q⟩ := h
  cases rx; cases ry
  obtain ⟨its, g1, p1, _⟩ := I.tuple h1
  obtain ⟨jts, g2, p2, _⟩ := I.tuple h2
  have l1 := g1.length
  have l2 := g2.length
  refine SeqAt.RcAt.tuples (e := fun _ => true) p1 p2 (by lia) (fun j k1 k2 => ?_) X.prog X.w _ _ ?_
  · have k1' : j < xs.length := by simpa [l1] using k1
    have k2' : j < ys.length := by simpa [l2] using k2
    obtain ⟨w1, e1, q1⟩ := g1.get (List.getElem?_eq_getElem k1')
    obtain ⟨w2, e2, q2⟩ := g2.get (List.getElem?_eq_getElem k2')
    have z1 : its.toArray[j] = w1 := by simpa using (List.getElem?_eq_some_iff.mp e1).2
    have z2 : jts.toArray[j] = w2 := by simpa using (List.getElem?_eq_some_iff.mp e2).2
    rw [z1, z2]
    exact eqAt_D I n _ _ _ _ _ (by show X.A.units + 1 + n < cLine; lia) (hx j _ _ (List.getElem?_eq_getElem k1') (List.getElem?_eq_getElem k2')) q1 q2
  · rw [all_true, List.size_toArray, List.size_toArray, ← l1, ← l2, hl]
    refine ⟨.bl true, H, I, ?_, q⟩
    show Value.bool _ = Value.bool true
    simp
end
end L2
end
section
set_option maxHeartbeats 4000001
namespace L2
open PySem PySem.Spec PyProof.Rows Own
section
variable {prog : Program} {w : World} {A : Around} {E : Value → Shared → Prop} {s : Shared}
theorem getItem_all {t sl : Addr} {items : Array Value} {vl vu : Value} {lo hi : Option Int} {Q : Value → Shared → Prop} (ht : IsTup s.heap t items) (hs : s.heap.IsSliceOf sl vl vu .none) (pl : IsPart vl lo) (pu : IsPart vu hi)
    (e0 : HT.sIx items.size 0 lo = 0) (e1 : HT.sIx items.size items.size hi = items.size) (h : Q (.ref t) s) : wpAny (model prog w) A (getItem (.ref t) (.ref sl)) Q E s := by
  obtain ⟨os, hos, hcs, hds⟩ := id hs
  have hTs : s.TypeIs (.ref sl) "slice" := ⟨os, hos, hcs⟩
  unfold getItem
  try with_reducible refine wpAny_holding ?_
  first | refine wpAny_bind (wpAny_pure ?_) | skip
  refine wpAny_bind (wpAny_sequenceKey ht.typeIs (by decide) (wpAny_bind (wpAny_callSpecial?_slot (name := Str.ofString "__getitem__") ht.typeIs PyProof.Rows.slot_tuple_getitem (wpAny_call_entry PyProof.Rows.slot_tuple_getitem ht.typeIs PyProof.Rows.entry_tuple_getitem ?_ (PyProof.Rows.args_tuple_getitem _ _)))))
  show wpAny _ _ (Builtin.Tuple.tupleItemsOf (.ref t) >>= _) _ _ s
  refine wpAny_bind (tupleItemsOf_ ht (wpAny_bind (wpAny_typeOf hTs ?_)))
  rw [if_pos (by decide)]
  refine wpAny_bind (HT.sliceApplied_gen hs pl pu ?_)
  rw [e0, e1]
  show wpAny _ _ (if (((0 : Nat) : Int) == 0 && (1 : Int) == 1 && (items.size - 0) == items.size) = true then _ else _) _ _ s
  rw [if_pos (by simp)]
  refine wpAny_bind ?_
  unfold Builtin.Tuple.tupleIsExact
  refine wpAny_bind (wpAny_typeOf ht.typeIs (wpAny_pure ?_))
  rw [if_pos (by decide)]
  exact wpAny_bind (wpAny_rule (wpAny_pure ⟨_, rfl, wpAny_pure h⟩))
end
section
variable {X : Cx}
end
end L2
end
section
set_option maxHeartbeats 4000001
namespace L2
open PySem PySem.Spec PyProof.Rows Own
section
variable {prog : Program} {w : World} {A : Around} {R : Result → Shared → Prop} {I S : Addr} {fp wr : List Addr} {n : Nat} {P B : Nat → Value → Prop} {St : Nat → Heap → Prop}
end
section
variable {prog : Program} {w : World} {A : Around} {E : Value → Shared → Prop} {s : Shared}
end
section
variable {X : Cx} {e e2 : Expr} {ta tb : TE} {p kp pos : Pos}
end
end L2
end
section
set_option maxHeartbeats 4000001
namespace L2
open PySem PySem.Spec PyProof.Rows Own
section
variable {X : Cx}
theorem op_catH : OpR X (binaryOp .Add) (fun x y H Q => ∃ a b xs ys, x = .ref a ∧ y = .ref b ∧ H a = some (.tup xs) ∧ H b = some (.tup ys) ∧ xs.length + ys.length ≤ sizeLine ∧ ∀ r H', Same H H' → H' r = some (.tup (xs ++ ys)) → Q (.ref r) H') := by
  intro pins s σ H x y v u Q I rx ry h
  obtain ⟨a, b, xs, ys, rfl, rfl, ha, hb, hz, q⟩ := h
  by_cases hx : xs = []
  · subst hx
    cases rx; cases ry
    obtain ⟨its, r1, p1, _⟩ := I.tuple (SqT.of ha)
    obtain ⟨jts, r2, p2, _⟩ := I.tuple (SqT.of hb)
    cases r1
    obtain ⟨⟨c1, d1, e1, sl1⟩, o1, c1', n1, e1'⟩ := p1
    obtain ⟨⟨c2, d2, e2, sl2⟩, o2, c2', n2, e2'⟩ := p2
    simp only at c1' e1' c2' e2'
    subst c1' e1' c2' e2'
    refine concat_meets ⟨_, o1, rfl⟩ ⟨_, o2, rfl⟩ noFill_tuple_add seq_tuple_add PySem.F.slot_tuple_add PySem.F.entry_tuple_add (PySem.F.args_tuple_add_2 _ _) (tuple_addW0 a b #[] jts.toArray n1 n2 d1 d2 sl1 sl2 rfl) ⟨o1, o2, ?_⟩
    exact ⟨.ref b, H, I, rfl, q b H (Same.refl H) (by rw [List.nil_append]; exact hb)⟩
  · exact op_catT pins s σ H _ _ v u Q I rx ry ⟨a, b, xs, ys, rfl, rfl, SqT.of ha, SqT.of hb, hx, hz, fun e => q a H (Same.refl H) (by rw [e, List.append_nil]; exact ha), fun _ p hp => q p _ (same_new hp _) upd_same⟩
theorem sl_tupH : SlR X (fun x lo hi H Q => ∃ a xs, x = .ref a ∧ H a = some (.tup xs) ∧ ∀ p H', Same H H' → H' p = some (.tup (cutV xs lo hi)) → Q (.ref p) H') := by
  intro pins s σ H x v vl vu lo hi sl Q I rx hs pl pu h
  obtain ⟨a, xs, rfl, hx, q⟩ := h
  by_cases hw : HT.sIx xs.length 0 lo = 0 ∧ HT.sIx xs.length xs.length hi = xs.length
  · cases rx
    obtain ⟨its, r, ht, hz⟩ := I.tuple (SqT.of hx)
    have hlen : its.toArray.size = xs.length := by rw [List.size_toArray]; exact r.length.symm
    refine ⟨"tuple", _, PyProof.Rows.slot_tuple_getitem.lookup, ht.typeIs, getItem_all ht hs pl pu (by rw [hlen]; exact hw.1) (by rw [hlen]; exact hw.2) ⟨.ref a, H, I, rfl, q a H (Same.refl H) ?_⟩⟩
    unfold cutV
    rw [hw.1, hw.2, List.drop_zero, Nat.sub_zero, List.take_length]
    exact hx
  · exact sl_tup pins s σ H _ v vl vu lo hi sl Q I rx hs pl pu ⟨a, xs, rfl, SqT.of hx, hw, fun p hp => q p _ (same_new hp _) upd_same⟩
end
theorem cut_upto (xs : List V) (i : Nat) (h : i ≤ xs.length) : cutV xs none (some (i : Int)) = xs.take i := by
  unfold cutV
  rw [HT.sIx_none, HT.sIx_nat, List.drop_zero, Nat.sub_zero, Nat.min_eq_left h]
theorem cut_from (xs : List V) (i : Nat) (h : i ≤ xs.length) : cutV xs (some (i : Int)) none = xs.drop i := by
  unfold cutV
  rw [HT.sIx_none, HT.sIx_nat, Nat.min_eq_left h]
  exact List.take_of_length_le (by rw [List.length_drop]; exact Nat.le_refl _)
end L2
end
section
set_option maxHeartbeats 4000001
namespace L2
open PySem PySem.Spec PyProof.Rows Own
section
variable {X : Cx}
end
end L2
end
section
set_option maxHeartbeats 4000001
namespace L2
open PySem PySem.Spec PyProof.Rows Own
section
variable {X : Cx}
end
end L2
end
section
set_option maxHeartbeats 4000001
namespace L2
open PySem PySem.Spec PyProof.Rows PySem.Calls PySem.NumText Own
section
variable {prog : Program} {w : World} {A : Around} {E : Value → Shared → Prop} {s : Shared}
theorem applied_fwd {sl : Addr} {t : Tok} {Q : Int × Int × Nat → Shared → Prop} (hs : s.heap.IsSliceOf sl .none .none (.int 1 t)) (h : Q (0, 1, 2) s) : wpAny (model prog w) A (Builtin.Slice.sliceApplied (.ref sl) (pure (2 : Int))) Q E s := by
  have hs' := hs; obtain ⟨os, hos, hcs, hds⟩ := hs'
  unfold Builtin.Slice.sliceApplied Builtin.Slice.sliceFields
  refine wpAny_bind (wpAny_bind (wpAny_field hos hds (x := .none) rfl (wpAny_bind (wpAny_field hos hds (x := .none) rfl (wpAny_bind (wpAny_field hos hds (x := .int 1 t) rfl (wpAny_pure ?_)))))))
  refine wpAny_bind (slicePart_int ?_); show wpAny _ _ (if ((1 : Int) == 0) = true then _ else _) _ _ s
  rw [if_neg (by decide)]
  refine wpAny_bind (slicePart_none (wpAny_bind (slicePart_none (wpAny_bind (wpAny_pure ?_)))))
  show wpAny _ _ (match Builtin.Slice.sliceAdjust none none 1 (2 : Int) with | (lo, hi) => pure (lo, (1 : Int), Builtin.Slice.slicePlaces lo hi 1)) _ _ s
  have e : Builtin.Slice.sliceAdjust none none 1 (2 : Int) = (0, 2) := by decide
  have e2 : Builtin.Slice.slicePlaces (0 : Int) 2 1 = 2 := by decide
  rw [e]; show wpAny _ _ (pure ((0 : Int), (1 : Int), Builtin.Slice.slicePlaces (0 : Int) 2 1)) _ _ s
  rw [e2]; exact wpAny_pure h
theorem getItem_fwd {t sl : Addr} {x y : Value} {tk : Tok} {Q : Value → Shared → Prop} (ht : IsTup s.heap t #[x, y]) (hs : s.heap.IsSliceOf sl .none .none (.int 1 tk)) (h : Q (.ref t) s) :
    wpAny (model prog w) A (getItem (.ref t) (.ref sl)) Q E s := by
  have hs' := hs; obtain ⟨os, hos, hcs, hds⟩ := hs'
  have hTs : s.TypeIs (.ref sl) "slice" := ⟨os, hos, hcs⟩
  unfold getItem; try with_reducible refine wpAny_holding ?_
  first | refine wpAny_bind (wpAny_pure ?_) | skip
  refine wpAny_bind (wpAny_sequenceKey ht.typeIs (by decide) (wpAny_bind (wpAny_callSpecial?_slot (name := Str.ofString "__getitem__") ht.typeIs PyProof.Rows.slot_tuple_getitem (wpAny_call_entry PyProof.Rows.slot_tuple_getitem ht.typeIs PyProof.Rows.entry_tuple_getitem ?_ (PyProof.Rows.args_tuple_getitem _ _)))))
  show wpAny _ _ (Builtin.Tuple.tupleItemsOf (.ref t) >>= _) _ _ s
  refine wpAny_bind (tupleItemsOf_ ht (wpAny_bind (wpAny_typeOf hTs ?_))); rw [if_pos (by decide)]
  refine wpAny_bind (applied_fwd hs ?_); show wpAny _ _ (if ((0 : Int) == 0 && (1 : Int) == 1 && (2 : Nat) == 2) = true then _ else _) _ _ s
  rw [if_pos (by decide)]
  refine wpAny_bind (?_ : wpAny _ _ (Builtin.Tuple.tupleIsExact (.ref t)) _ _ s)
  unfold Builtin.Tuple.tupleIsExact; refine wpAny_bind (wpAny_typeOf ht.typeIs (wpAny_pure ?_))
  rw [if_pos (by decide)]; exact wpAny_bind (wpAny_rule (wpAny_pure ⟨_, rfl, wpAny_pure h⟩))
end
section
variable {X : Cx}
def tTurn (K : PySem.W.Frag) (te : TE) (ts : TO) : TE := fun σ H Q => te σ H fun x H1 => ts σ H1 fun o H2 => ∃ a u v, x = .ref a ∧ SqT K H2 a [u, v] ∧ ((o = some 1 ∧ Q (.ref a) H2) ∨ (o = some (-1) ∧ ∀ p, H2 p = none → Q (.ref p) (upd H2 p (.tup [v, u]))))
theorem pe_turn {e st : Expr} {te : TE} {ts : TO} {p2 pos : Pos} (he : PE X e te) (hs : PO X (some st) ts) : PE X (.Subscript e (.Slice none none (some st) p2) pos) (tTurn X.K te ts) := by
  intro pins s σ H Q I h
  refine Subscript_ (thn (he pins s σ H _ I h) fun v s1 ⟨x, H1, I1, r1, q1⟩ => wpAny_Slice ?_)
  rw [evalPart_none]; refine wpAny_pure (wpAny_pure (thn (hs pins s1 σ H1 _ I1 q1) fun vst s2 ⟨o, H2, I2, po, q2⟩ => ?_))
  obtain ⟨a, u1, u2, rfl, hq, k⟩ := q2
  cases r1
  rcases k with ⟨rfl, k⟩ | ⟨rfl, k⟩
  · obtain ⟨t, rfl⟩ : ∃ t, vst = .int 1 t := by cases po; exact ⟨_, rfl⟩
    have I3 : Inv X pins σ H2 { s2 with heap := s2.heap.push { cls := .type "slice", data := .fields #[.none, .none, .int 1 t] } } := I2.kept (t' := s2.toks) fun b ob q => Heap.get?_push_of_some _ q
    obtain ⟨its, r, ht, hz⟩ := I3.tuple hq
    obtain ⟨w1, w2, rfl, g1, g2⟩ := r.two
    show wpAny (model X.prog X.w) X.A (subscriptTail e (.Slice none none (some st) p2) (.ref a) (.ref s2.heap.objs.size)) (EP X pins σ Q) X.xe { s2 with heap := s2.heap.push { cls := .type "slice", data := .fields #[.none, .none, .int 1 t] } }
    refine tail_any (ops := [.ref a, .ref s2.heap.objs.size]) ht.typeIs PyProof.Rows.slot_tuple_getitem.lookup (getItem_fwd ht (Heap.IsSliceOf.new ..) ?_) (by with_unfolding_all rfl)
    exact ⟨.ref _, _, I3, rfl, k⟩
  · obtain ⟨t, rfl⟩ : ∃ t, vst = .int (-1) t := by cases po; exact ⟨_, rfl⟩
    have I3 : Inv X pins σ H2 { s2 with heap := s2.heap.push { cls := .type "slice", data := .fields #[.none, .none, .int (-1) t] } } := I2.kept (t' := s2.toks) fun b ob q => Heap.get?_push_of_some _ q
    obtain ⟨its, r, ht, hz⟩ := I3.tuple hq
    obtain ⟨w1, w2, rfl, g1, g2⟩ := r.two
    show wpAny (model X.prog X.w) X.A (subscriptTail e (.Slice none none (some st) p2) (.ref a) (.ref s2.heap.objs.size)) (EP X pins σ Q) X.xe { s2 with heap := s2.heap.push { cls := .type "slice", data := .fields #[.none, .none, .int (-1) t] } }
    refine tail_any (ops := [.ref a, .ref s2.heap.objs.size]) ht.typeIs PyProof.Rows.slot_tuple_getitem.lookup (getItem_back ht (Heap.IsSliceOf.new ..) ?_) (by with_unfolding_all rfl)
    exact ⟨.ref _, _, I3.laid (t' := s2.toks) (o := .tup [u2, u1]) (fun b ob q => Heap.get?_push_of_some _ q) (Nat.le_refl _) ⟨by show 2 ≤ sizeLine; decide, [w2, w1], .cons g2 (.cons g1 .nil), TupX.new _ _⟩, rfl, k _ (I3.hok.fresh (Nat.le_refl _))⟩
theorem call_intShort : CallR X (.type "int") (fun vs H Q => ∃ x : Str, vs = [.str x] ∧ AllDigits x.cps.toList ∧ 0 < x.length ∧ x.length ≤ 640 ∧ Q (.int (digitsVal x.cps.toList : Nat)) H) := by
  rintro pins s σ H vs us Q I rv ⟨x, rfl, hd, h0, h6, q⟩
  obtain ⟨u, rfl, t, rfl⟩ := rv.one
  have xl : x.cps.toList.length = x.length := by simp [Str.length]
  have ne : x.cps.toList ≠ [] := fun z => by rw [z] at xl; simp at xl; lia
  exact PySem.W.KIN.call_text (intText_digits hd ne (by lia)) h6 ⟨.int _, H, I.tok _, ⟨_, rfl⟩, q⟩
end
end L2
end
section
set_option maxHeartbeats 4000001
namespace K20
open PySem L2 Own Bn
def top (i : Nat) : Stmt := PySem.Challenge.pw_stairlanes_k20_balls_back.main.body.getD i (.Pass ⟨0, 0, 0, 0⟩)
abbrev sCell : Stmt := top 28
abbrev sLeft : Stmt := top 29
abbrev sPick : Stmt := top 30
section
variable {P : Program} {w : World} {K : PySem.W.Frag} {mg : Str → Option Value} {base : Heap}
theorem scC : FnScope ["_law_script", "_law_k"] ["_law_script", "_law_k"] (defScope sCell) := ⟨rfl, rfl, rfl, by decide +kernel, rfl, by decide +kernel, by decide +kernel⟩
theorem ok_cell {f : Addr} {fd : FuncData} (F : Fun K "_law_cell_at" "_law_cell_at" sCell f fd) (G : Mgs mg) : FnOk P w K mg base CX0 1 f fd ["_law_script", "_law_k"] (spCell K) := by
  refine F.ok scC (fun vs H Q E h => ?_) (fun cdv A outer s H vs Q E hr h => ?_)
  · obtain ⟨a, ns, k, rfl, _⟩ := h
    rfl
  obtain ⟨a, ns, k, rfl, hS, k0, q⟩ := h
  refine ⟨_, (@pss_cons _ _ _ _ _ (@ps_if _ _ _ _ _ _ _ _ (@pt_cmpR _ _ _ _ _ _ _ _ op_lt (@pv _ 1 _ _ (by rfl) (by first | exact Or.inl rfl | exact Or.inr (Or.inl rfl) | exact Or.inr (Or.inr rfl)) (by decide) (by decide)) (@pe_callB _ _ _ _ _ _ _ _ _ call_len_seq (by rfl) G.len PySem.boot_len (@pa_cons _ _ _ _ _ (@pv _ 0 _ _ (by rfl) (by first | exact Or.inl rfl | exact Or.inr (Or.inl rfl) | exact Or.inr (Or.inr rfl)) (by decide) (by decide)) pa_nil (by rfl)) (by decide) (by decide) (by rfl) (by rfl)) (nomark _)) (@pss_one _ _ _ (@ps_ret _ _ _ _ (@pe_ix _ _ _ _ _ _ _ ix_list (@pv _ 0 _ _ (by rfl) (by first | exact Or.inl rfl | exact Or.inr (Or.inl rfl) | exact Or.inr (Or.inr rfl)) (by decide) (by decide)) (@pv _ 1 _ _ (by rfl) (by first | exact Or.inl rfl | exact Or.inr (Or.inl rfl) | exact Or.inr (Or.inr rfl)) (by decide) (by decide)) (fun _ _ => rfl)))) pss_nil) (@pss_one _ _ _ (@ps_ret _ _ _ _ pe_int))), ?_⟩
  refine ⟨_, rfl, _, rfl, a, _, rfl, .inl hS, _, _, rfl, rfl, _, rfl, ite2 (fun z => ?_) (fun z => ?_)⟩
  · obtain ⟨j, rfl⟩ := Int.eq_ofNat_of_zero_le k0
    have hj : j < ns.length := by have := of_decide_eq_true z; rw [List.length_map] at this; lia
    exact ⟨_, rfl, _, rfl, a, _, _, _, rfl, rfl, hS, at_int hj, q _⟩
  · exact q 0
theorem scK : FnScope ["_law_left_here", "_law_many_here", "_law_digit"] ["_law_left_here", "_law_many_here"] (defScope sPick) := ⟨rfl, rfl, rfl, by decide +kernel, rfl, by decide +kernel, by decide +kernel⟩
theorem ok_pick {f : Addr} {fd : FuncData} (F : Fun K "_law_pick" "_law_pick" sPick f fd) : FnOk P w K mg base CX0 1 f fd ["_law_left_here", "_law_many_here"] spPick := by
  refine F.ok scK (fun vs H Q E h => ?_) (fun cdv A outer s H vs Q E hr h => ?_)
  · obtain ⟨l, m, rfl, _⟩ := h
    rfl
  obtain ⟨l, m, rfl, m0, m1, S, k⟩ := h
  obtain ⟨a, b, hl, a0, b0, b1⟩ := S.ex
  refine ⟨_, (@pss_cons _ _ _ _ _ (@ps_if _ _ _ _ _ _ _ _ (@pt_cmpR _ _ _ _ _ _ _ _ op_gt (@pe_ix _ _ _ _ _ _ _ ix_list (@pv _ 0 _ _ (by rfl) (by first | exact Or.inl rfl | exact Or.inr (Or.inl rfl) | exact Or.inr (Or.inr rfl)) (by decide) (by decide)) pe_int (fun _ _ => rfl)) pe_int (nomark _)) (@pss_cons _ _ _ _ _ (@ps_set _ _ 2 _ _ _ _ scK.nd rfl (Or.inl rfl) (@pe_op _ _ _ _ _ _ _ _ op_mod (@pe_ix _ _ _ _ _ _ _ ix_list (@pv _ 0 _ _ (by rfl) (by first | exact Or.inl rfl | exact Or.inr (Or.inl rfl) | exact Or.inr (Or.inr rfl)) (by decide) (by decide)) pe_int (fun _ _ => rfl)) (@pv _ 1 _ _ (by rfl) (by first | exact Or.inl rfl | exact Or.inr (Or.inl rfl) | exact Or.inr (Or.inr rfl)) (by decide) (by decide))) (by rfl) (by first | exact .inl rfl | exact .inr rfl | assumption)) (@pss_cons _ _ _ _ _ (@ps_asg _ _ _ _ _ _ (@pe_op _ _ _ _ _ _ _ _ op_fdiv (@pe_ix _ _ _ _ _ _ _ ix_list (@pv _ 0 _ _ (by rfl) (by first | exact Or.inl rfl | exact Or.inr (Or.inl rfl) | exact Or.inr (Or.inr rfl)) (by decide) (by decide)) pe_int (fun _ _ => rfl)) (@pv _ 1 _ _ (by rfl) (by first | exact Or.inl rfl | exact Or.inr (Or.inl rfl) | exact Or.inr (Or.inr rfl)) (by decide) (by decide))) (@pg_sub _ _ _ _ _ _ _ (@pv _ 0 _ _ (by rfl) (by first | exact Or.inl rfl | exact Or.inr (Or.inl rfl) | exact Or.inr (Or.inr rfl)) (by decide) (by decide)) pe_int set_list (by intro _; rfl)) (by rfl) (by rfl) (by rfl)) (@pss_one _ _ _ (@ps_ret _ _ _ _ (@pv _ 2 _ _ (by rfl) (by first | exact Or.inl rfl | exact Or.inr (Or.inl rfl) | exact Or.inr (Or.inr rfl)) (by decide) (by decide)))))) pss_nil) (@pss_cons _ _ _ _ _ (@ps_asg _ _ _ _ _ _ (@pe_op _ _ _ _ _ _ _ _ op_mod (@pe_op _ _ _ _ _ _ _ _ op_add (@pe_op _ _ _ _ _ _ _ _ op_mul (@pe_ix _ _ _ _ _ _ _ ix_list (@pv _ 0 _ _ (by rfl) (by first | exact Or.inl rfl | exact Or.inr (Or.inl rfl) | exact Or.inr (Or.inr rfl)) (by decide) (by decide)) pe_int (fun _ _ => rfl)) pe_int) pe_int) pe_int) (@pg_sub _ _ _ _ _ _ _ (@pv _ 0 _ _ (by rfl) (by first | exact Or.inl rfl | exact Or.inr (Or.inl rfl) | exact Or.inr (Or.inr rfl)) (by decide) (by decide)) pe_int set_list (by intro _; rfl)) (by rfl) (by rfl) (by rfl)) (@pss_one _ _ _ (@ps_ret _ _ _ _ (@pe_op _ _ _ _ _ _ _ _ op_mod (@pe_op _ _ _ _ _ _ _ _ op_mod (@pe_op _ _ _ _ _ _ _ _ op_mul (@pe_ix _ _ _ _ _ _ _ ix_list (@pv _ 0 _ _ (by rfl) (by first | exact Or.inl rfl | exact Or.inr (Or.inl rfl) | exact Or.inr (Or.inr rfl)) (by decide) (by decide)) pe_int (fun _ _ => rfl)) (@pe_ix _ _ _ _ _ _ _ ix_list (@pv _ 0 _ _ (by rfl) (by first | exact Or.inl rfl | exact Or.inr (Or.inl rfl) | exact Or.inr (Or.inr rfl)) (by decide) (by decide)) pe_int (fun _ _ => rfl))) pe_int) (@pv _ 1 _ _ (by rfl) (by first | exact Or.inl rfl | exact Or.inr (Or.inl rfl) | exact Or.inr (Or.inr rfl)) (by decide) (by decide))))))), ?_⟩
  have fin : ∀ (x : Int) (H' : Hp), 0 ≤ x → x < m → PkAt H' l → But l H H' → Q (.int x) H' := fun x H' x0 x1 S' B' => by
    obtain ⟨v, rfl⟩ := Int.eq_ofNat_of_zero_le x0
    exact k v H' x1 S' B'
  refine ⟨_, rfl, l, _, _, _, rfl, rfl, SqL.of hl, rfl, _, _, rfl, rfl, _, rfl, ite2 (fun q => ?_) (fun q => ?_)⟩
  · refine ⟨_, rfl, l, _, _, _, rfl, rfl, SqL.of hl, rfl, _, rfl, _, _, rfl, rfl, m0, ?_⟩
    refine ⟨_, rfl, l, _, _, _, rfl, rfl, SqL.of hl, rfl, _, rfl, _, _, rfl, rfl, ⟨m0, m1⟩, _, rfl, l, _, _, 0, rfl, rfl, hl, rfl, _, rfl, ?_⟩
    exact fin _ _ (Int.emod_nonneg _ (by lia)) (Int.emod_lt_of_pos _ m0) ⟨a / m, b, upd_same, Int.ediv_nonneg a0 (by lia), b0, b1⟩ fun x o e ne => by rw [upd_ne ne]; exact e
  · refine ⟨_, rfl, l, _, _, _, rfl, rfl, SqL.of hl, rfl, _, _, rfl, rfl, .inr ⟨by decide, by decide⟩, _, _, rfl, rfl, _, _, rfl, rfl, (by show (0 : Int) < 2147483647; decide), _, rfl, l, _, _, 1, rfl, rfl, hl, rfl, ?_⟩
    have g0 : 0 ≤ (b * 48271 + 12345) % 2147483647 := Int.emod_nonneg _ (by decide)
    have g1 : (b * 48271 + 12345) % 2147483647 < 2147483647 := Int.emod_lt_of_pos _ (by decide)
    generalize hH : upd H l (HO.lst ([V.int a, V.int b].set 1 (V.int ((b * 48271 + 12345) % 2147483647)))) = H1
    have h1 : H1 l = some (.lst [.int a, .int ((b * 48271 + 12345) % 2147483647)]) := by rw [← hH]; exact upd_same
    refine ⟨_, rfl, l, _, _, _, rfl, rfl, SqL.of h1, rfl, _, rfl, l, _, _, _, rfl, rfl, SqL.of h1, rfl, _, _, rfl, rfl, .inl ⟨by lia, by lia⟩, _, _, rfl, rfl, (by show (0 : Int) < 1999999973; decide), _, rfl, _, _, rfl, rfl, m0, ?_⟩
    exact fin _ _ (Int.emod_nonneg _ (by lia)) (Int.emod_lt_of_pos _ m0) ⟨a, _, h1, a0, g0, by lia⟩ fun x o e ne => by rw [← hH, upd_ne ne]; exact e
theorem scL : FnScope ["_law_script", "_law_k", "_law_cell", "_law_seed"] ["_law_script", "_law_k"] (defScope sLeft) := ⟨rfl, rfl, rfl, by decide +kernel, rfl, by decide +kernel, by decide +kernel⟩
theorem ok_left {f fC : Addr} {fd dC : FuncData} (F : Fun K "_law_left" "_law_left" sLeft f fd) (G : Mgs mg) (zd : PySem.W.nsIn K cStatics "sys.int_max_str_digits" = some none) (UC : Use P w K mg base "_law_cell_at" ["_law_script", "_law_k"] 1 (spCell K) fC dC) : FnOk P w K mg base CX0 2 f fd ["_law_script", "_law_k"] (spLeft K) := by
  refine F.ok scL (fun vs H Q E h => ?_) (fun cdv A outer s H vs Q E hr h => ?_)
  · obtain ⟨a, ns, k, rfl, _⟩ := h
    rfl
  obtain ⟨a, ns, k, rfl, hS, h63, k0, k1, q⟩ := h
  refine ⟨_, (@pss_cons _ _ _ _ _ (@ps_set _ _ 2 _ _ _ _ scL.nd rfl (Or.inl rfl) (@pe_call _ _ _ _ _ _ _ _ _ _ _ _ _ _ _ _ UC.ok hr (by rfl) UC.m UC.kp UC.b .nil pass0 (@pa_cons _ _ _ _ _ (@pv _ 0 _ _ (by rfl) (by first | exact Or.inl rfl | exact Or.inr (Or.inl rfl) | exact Or.inr (Or.inr rfl)) (by decide) (by decide)) (@pa_cons _ _ _ _ _ (@pe_op _ _ _ _ _ _ _ _ op_mod (@pv _ 1 _ _ (by rfl) (by first | exact Or.inl rfl | exact Or.inr (Or.inl rfl) | exact Or.inr (Or.inr rfl)) (by decide) (by decide)) (@pe_callB _ _ _ _ _ _ _ _ _ (call_max2 rfl) (by rfl) G.max (by rfl) (@pa_cons _ _ _ _ _ pe_int (@pa_cons _ _ _ _ _ (@pe_callB _ _ _ _ _ _ _ _ _ call_len_seq (by rfl) G.len PySem.boot_len (@pa_cons _ _ _ _ _ (@pv _ 0 _ _ (by rfl) (by first | exact Or.inl rfl | exact Or.inr (Or.inl rfl) | exact Or.inr (Or.inr rfl)) (by decide) (by decide)) pa_nil (by rfl)) (by decide) (by decide) (by rfl) (by rfl)) pa_nil (by rfl)) (by rfl)) (by decide) (by decide) (by rfl) (by rfl))) pa_nil (by rfl)) (by rfl)) (by decide) (by rfl) (by rfl)) (by rfl) (by first | exact .inl rfl | exact .inr rfl | assumption)) (@pss_cons _ _ _ _ _ (@ps_set _ _ 3 _ _ _ _ scL.nd rfl (Or.inl rfl) (@pe_op _ _ _ _ _ _ _ _ op_mod (@pe_op _ _ _ _ _ _ _ _ op_mul (@pe_op _ _ _ _ _ _ _ _ op_add (@pe_op _ _ _ _ _ _ _ _ op_add (@pe_op _ _ _ _ _ _ _ _ op_mod (@pv _ 2 _ _ (by rfl) (by first | exact Or.inl rfl | exact Or.inr (Or.inl rfl) | exact Or.inr (Or.inr rfl)) (by decide) (by decide)) pe_int) (@pe_op _ _ _ _ _ _ _ _ op_mul (@pe_op _ _ _ _ _ _ _ _ op_mul pe_int (@pv _ 1 _ _ (by rfl) (by first | exact Or.inl rfl | exact Or.inr (Or.inl rfl) | exact Or.inr (Or.inr rfl)) (by decide) (by decide))) (@pv _ 1 _ _ (by rfl) (by first | exact Or.inl rfl | exact Or.inr (Or.inl rfl) | exact Or.inr (Or.inr rfl)) (by decide) (by decide)))) pe_int) pe_int) pe_int) (by rfl) (by first | exact .inl rfl | exact .inr rfl | assumption)) (@pss_one _ _ _ (@ps_ret _ _ _ _ (@pe_lst _ _ _ _ (@pa_cons _ _ _ _ _ (@pe_op _ _ _ _ _ _ _ _ op_mod (@pe_op _ _ _ _ _ _ _ _ op_mul (@pe_callB _ _ _ _ _ _ _ _ _ call_abs (by rfl) G.abs (by rfl) (@pa_cons _ _ _ _ _ (@pv _ 2 _ _ (by rfl) (by first | exact Or.inl rfl | exact Or.inr (Or.inl rfl) | exact Or.inr (Or.inr rfl)) (by decide) (by decide)) pa_nil (by rfl)) (by decide) (by decide) (by rfl) (by rfl)) (@pe_callTy _ _ _ _ _ _ _ _ _ call_int1 (by rfl) G.int (by rfl) (@pa_cons _ _ _ _ _ (@pe_cmpR _ _ _ _ _ _ _ _ op_ge (@pe_callB _ _ _ _ _ _ _ _ _ call_abs (by rfl) G.abs (by rfl) (@pa_cons _ _ _ _ _ (@pv _ 2 _ _ (by rfl) (by first | exact Or.inl rfl | exact Or.inr (Or.inl rfl) | exact Or.inr (Or.inr rfl)) (by decide) (by decide)) pa_nil (by rfl)) (by decide) (by decide) (by rfl) (by rfl)) (@pe_op _ _ _ _ _ _ _ _ op_pow pe_int pe_int) (nomark _)) pa_nil (by rfl)) (by decide) (by decide) (by rfl) (by rfl))) (@pe_callTy _ _ _ _ _ _ _ _ _ (call_intLong zd) (by rfl) G.int (by rfl) (@pa_cons _ _ _ _ _ (@pe_op _ _ _ _ _ _ _ _ op_add_str pe_str (@pe_op _ _ _ _ _ _ _ _ op_repS pe_str pe_int)) pa_nil (by rfl)) (by decide) (by decide) (by rfl) (by rfl))) (@pa_cons _ _ _ _ _ (@pv _ 3 _ _ (by rfl) (by first | exact Or.inl rfl | exact Or.inr (Or.inl rfl) | exact Or.inr (Or.inr rfl)) (by decide) (by decide)) pa_nil (by rfl)) (by rfl))))))), ?_⟩
  refine ⟨_, rfl, _, rfl, _, rfl, a, _, rfl, .inl hS, _, _, rfl, _, _, rfl, rfl, ?_, ?_⟩
  · split <;> lia
  refine ⟨a, ns, _, rfl, hS, Int.emod_nonneg _ (by split <;> lia), fun x => ?_⟩
  refine ⟨_, rfl, _, _, rfl, rfl, (by show (0 : Int) < 2147483629; decide), _, rfl, _, _, rfl, rfl, .inl ⟨by decide, by decide⟩, _, rfl, _, _, rfl, rfl, .inr ⟨by lia, by lia⟩, _, _, rfl, rfl, _, _, rfl, rfl, _, _, rfl, rfl, .inr ⟨by decide, by decide⟩, _, _, rfl, rfl, (by show (0 : Int) < 2147483647; decide), ?_⟩
  have g0 := Int.emod_nonneg ((x % 2147483629 + 7919 * k * k + 11) * 48271) (show (2147483647 : Int) ≠ 0 by decide)
  have g1 := Int.emod_lt_of_pos ((x % 2147483629 + 7919 * k * k + 11) * 48271) (show (0 : Int) < 2147483647 by decide)
  refine ⟨_, rfl, _, rfl, _, rfl, _, rfl, _, _, rfl, rfl, ⟨by decide, by decide, by decide⟩, _, _, rfl, rfl, .inr ⟨_, rfl, _, _, rfl, rfl, .inr ?_, ?_⟩⟩
  · have c : ∀ b : Bool, -2 ^ 64 < (if b = true then (1 : Int) else 0) ∧ (if b = true then (1 : Int) else 0) < 2 ^ 64 := by decide
    exact c _
  refine ⟨48, 2000, rfl, rfl, by decide, by decide, fun z hz => ?_⟩
  obtain ⟨d1, d2, d3⟩ := long_ok hz
  have zl : z.length = 2000 := by
    have := congrArg List.length hz
    rw [Array.length_toList, List.length_replicate] at this
    exact this
  refine ⟨_, _, rfl, rfl, by rw [zl]; decide, _, rfl, d1, by lia, by lia, _, _, rfl, rfl, by lia, _, rfl, (by show 2 ≤ sizeLine; decide), fun l hl => ?_⟩
  exact q l _ hl (same_new hl _) ⟨_, _, upd_same, Int.emod_nonneg _ (by lia), g0, by lia⟩
end
end K20
end
section
set_option maxHeartbeats 4000001
namespace L2
open PySem PySem.Spec PyProof.Rows Own
section
variable {X : Cx}
theorem ps_dead {st : Stmt} : PS X st (fun _ _ _ => False) := fun _ _ _ _ _ _ h => h.elim
end
def AnyT (K : PySem.W.Frag) (H : Hp) (x : V) : Prop := ∃ T, TyOf K H x T ∧ ∃ t : String, T = .type t
def wholeV : V → Bool
  | .int _ => true
  | _ => false
def belowV (b : Int) : V → Bool
  | .int i => decide (0 ≤ i) && decide (i < b)
  | _ => false
def fromV (b : Int) : V → Bool
  | .int i => decide (b ≤ i)
  | _ => false
def fewV : V → Bool
  | .int i => decide ((if i < 0 then -i else i) < 10 ^ 30)
  | _ => false
def wordV (w : Str) : V → Bool
  | .str x => decide (x = w)
  | _ => false
def rowOf (H : Hp) : V → Option (List V)
  | .ref a => match H a with
    | some (.tup xs) => some xs
    | _ => none
  | _ => none
def rowV (H : Hp) (m : Int) (x : V) : Bool := match rowOf H x with
  | some xs => decide ((xs.length : Int) = m)
  | none => false
theorem rowOf_tup {H : Hp} {a : Addr} {xs : List V} (h : H a = some (.tup xs)) : rowOf H (.ref a) = some xs := by
  show (match H a with
    | some (.tup xs) => some xs
    | _ => none) = _
  rw [h]
theorem rowOf_some {H : Hp} {x : V} {xs : List V} (h : rowOf H x = some xs) : ∃ a, x = .ref a ∧ H a = some (.tup xs) := by
  cases x with
  | ref a =>
    refine ⟨a, rfl, ?_⟩
    cases z : H a with
    | none => simp [rowOf, z] at h
    | some o => cases o <;> simp [rowOf, z] at h; rw [h]
  | _ => cases h
theorem int_dec (i j : Int) : decide (V.int i = V.int j) = decide (i = j) := by
  by_cases e : i = j
  · rw [decide_eq_true e, decide_eq_true (congrArg V.int e)]
  · rw [decide_eq_false e, decide_eq_false (fun z => e (V.int.inj z))]
theorem str_dec (i j : Str) : decide (V.str i = V.str j) = decide (i = j) := by
  by_cases e : i = j
  · rw [decide_eq_true e, decide_eq_true (congrArg V.str e)]
  · rw [decide_eq_false e, decide_eq_false (fun z => e (V.str.inj z))]
structure Isi (K : PySem.W.Frag) (H : Hp) (x : V) (t : Value) : Prop where
  ty : TyOf K H x t
  int : PySem.W.kitOne K t (.type "int") = some (match x with | .int _ => true | .bl _ => true | _ => false)
  bool : PySem.W.kitOne K t (.type "bool") = some (match x with | .bl _ => true | _ => false)
  str : PySem.W.kitOne K t (.type "str") = some (match x with | .str _ => true | _ => false)
  tup : PySem.W.kitOne K t (.type "tuple") = some (rowOf H x).isSome
theorem isi_mk {K : PySem.W.Frag} {H : Hp} {x : V} {T : Value} (h : TyOf K H x T) (et : ∃ t, T = .type t) : Isi K H x T := by
  cases h with
  | ins e _ _ _ _ _ => obtain ⟨t, et⟩ := et; cases et
  | lst e => exact ⟨.lst e, rfl, rfl, rfl, by simp only [rowOf, e]; rfl⟩
  | frz e => exact ⟨.frz e, rfl, rfl, rfl, by simp only [rowOf, e]; rfl⟩
  | tup e => exact ⟨.tup e, rfl, rfl, rfl, by simp only [rowOf, e]; rfl⟩
  | dK e => exact ⟨.dK e, rfl, rfl, rfl, by simp only [rowOf, e]; rfl⟩
  | dT e => exact ⟨.dT e, rfl, rfl, rfl, by simp only [rowOf, e]; rfl⟩
  | non => exact ⟨.non, rfl, rfl, rfl, rfl⟩
  | bl b => exact ⟨.bl b, rfl, rfl, rfl, rfl⟩
  | int i => exact ⟨.int i, rfl, rfl, rfl, rfl⟩
  | str x => exact ⟨.str x, rfl, rfl, rfl, rfl⟩
  | flt x => exact ⟨.flt x, rfl, rfl, rfl, rfl⟩
theorem AnyT.isi {K : PySem.W.Frag} {H : Hp} {x : V} (h : AnyT K H x) : ∃ t, Isi K H x t :=
  let ⟨T, h, et⟩ := h
  ⟨T, isi_mk h et⟩
end L2
end
section
set_option maxHeartbeats 4000001
namespace Bn
open PySem L2 Own
theorem inTwo (h a b : Nat) : inV (V.int h) [V.int a, V.int b] = decide (h = a ∨ h = b) := by
  by_cases e1 : h = a
  · subst e1; simp [inV, eqV]
  · by_cases e2 : h = b
    · subst e2; simp [inV, eqV]
    · have n1 : ¬ ((h : Int) = a) := by lia
      have n2 : ¬ ((h : Int) = b) := by lia
      simp [inV, eqV, e1, e2]; lia
structure IsNext (fs : List (Nat × Nat)) (lane n k : Nat) : Prop where
  from_ : n ≤ k
  upto : k ≤ fs.length
  none : ∀ j g, n ≤ j → j < k → fs[j]? = some g → ¬ (lane = g.1 ∨ lane = g.2)
  here : ∀ g, fs[k]? = some g → lane = g.1 ∨ lane = g.2
theorem IsNext.one {fs : List (Nat × Nat)} {lane n k m : Nat} (h : IsNext fs lane n k) (g : IsNext fs lane n m) : k = m := by
  have go : ∀ k m, IsNext fs lane n k → IsNext fs lane n m → ¬ k < m := fun k m h g z => by
    have kl : k < fs.length := Nat.lt_of_lt_of_le z g.upto
    exact g.none k fs[k] h.from_ z (List.getElem?_eq_getElem kl) (h.here _ (List.getElem?_eq_getElem kl))
  have a := go k m h g
  have b := go m k g h
  lia
structure Grp where
  many : Int
  lane : Nat
  fork : Nat
def Grs (H : Hp) : List V → List Grp → Prop
  | [], [] => True
  | p :: ps, g :: gs => (∃ a, p = .ref a ∧ H a = some (.tup [.int g.many, .int g.lane, .int g.fork])) ∧ Grs H ps gs
  | _, _ => False
theorem Grs.tups {H H' : Hp} (t : Tups H H') : ∀ {ps : List V} {gs : List Grp}, Grs H ps gs → Grs H' ps gs
  | [], [], _ => trivial
  | _ :: _, _ :: _, ⟨⟨a, e, h⟩, r⟩ => ⟨⟨a, e, t _ _ h⟩, r.tups t⟩
theorem Grs.len {H : Hp} : ∀ {ps : List V} {gs : List Grp}, Grs H ps gs → ps.length = gs.length
  | [], [], _ => rfl
  | _ :: _, _ :: _, ⟨_, r⟩ => congrArg (· + 1) r.len
theorem Grs.app {H : Hp} : ∀ {ps qs : List V} {gs hs : List Grp}, Grs H ps gs → Grs H qs hs → Grs H (ps ++ qs) (gs ++ hs)
  | [], _, [], _, _, q => q
  | _ :: _, _, _ :: _, _, ⟨x, r⟩, q => ⟨x, r.app q⟩
theorem Grs.one {H : Hp} {a : Addr} {g : Grp} (h : H a = some (.tup [.int g.many, .int g.lane, .int g.fork])) : Grs H [.ref a] [g] := ⟨⟨a, rfl, h⟩, trivial⟩
theorem Grs.get {H : Hp} : ∀ {ps : List V} {gs : List Grp} {i : Nat} {p : V}, Grs H ps gs → ps[i]? = some p → ∃ a g, p = .ref a ∧ gs[i]? = some g ∧ H a = some (.tup [.int g.many, .int g.lane, .int g.fork])
  | [], [], _, _, _, e => by simp at e
  | _ :: _, g :: _, 0, p, ⟨⟨a, e1, h⟩, _⟩, e => by
    have : _ = p := Option.some.inj e
    subst this
    exact ⟨a, g, e1, rfl, h⟩
  | _ :: _, _ :: _, i + 1, p, ⟨_, r⟩, e => r.get (i := i) (by simpa using e)
theorem Grs.take {H : Hp} : ∀ {ps : List V} {gs : List Grp} (i : Nat), Grs H ps gs → Grs H (ps.take i) (gs.take i)
  | [], [], i, _ => by cases i <;> exact trivial
  | _ :: _, _ :: _, 0, _ => trivial
  | _ :: _, _ :: _, i + 1, ⟨x, r⟩ => ⟨x, r.take i⟩
theorem Grs.drop {H : Hp} : ∀ {ps : List V} {gs : List Grp} (i : Nat), Grs H ps gs → Grs H (ps.drop i) (gs.drop i)
  | [], [], i, _ => by cases i <;> exact trivial
  | _ :: _, _ :: _, 0, h => h
  | _ :: _, _ :: _, i + 1, ⟨_, r⟩ => r.drop i
structure SceneAt (H : Hp) (sc tr gr ou : Addr) (ps : List V) (ts : List Int) (gs : List Grp) (os : List Int) : Prop where
  sc : H sc = some (.tup [.ref tr, .ref gr, .ref ou])
  tr : H tr = some (.tup (ts.map V.int))
  gr : H gr = some (.tup ps)
  grs : Grs H ps gs
  ou : H ou = some (.tup (os.map V.int))
theorem SceneAt.tups {H H' : Hp} {sc tr gr ou : Addr} {ps : List V} {ts : List Int} {gs : List Grp} {os : List Int} (t : Tups H H') (h : SceneAt H sc tr gr ou ps ts gs os) : SceneAt H' sc tr gr ou ps ts gs os := ⟨t _ _ h.sc, t _ _ h.tr, t _ _ h.gr, h.grs.tups t, t _ _ h.ou⟩
end Bn
end
section
set_option maxHeartbeats 4000001
namespace K20
open PySem L2 Own Bn
abbrev sNext : Stmt := top 11
def spNext : Sp := fun vs H Q _ => ∃ r fr er ps N, ∃ lane n : Nat, vs = [.ref r, .int lane, .int n] ∧ Nt.Ok N ∧ NetAt H r fr er ps N ∧ n ≤ N.forks.length ∧ ∀ k : Nat, IsNext N.forks lane n k → Q (.int k) H
section
variable {P : Program} {w : World} {K : PySem.W.Frag} {mg : Str → Option Value} {base : Heap}
theorem scNx : FnScope ["net", "lane", "number", "forks"] ["net", "lane", "number"] (defScope sNext) := ⟨rfl, rfl, rfl, by decide +kernel, rfl, by decide +kernel, by decide +kernel⟩
theorem ok_next {f : Addr} {fd : FuncData} (F : Fun K "next_fork" "next_fork" sNext f fd) (G : Mgs mg) : FnOk P w K mg base CX0 1 f fd ["net", "lane", "number"] spNext := by
  refine F.ok scNx (fun vs H Q E h => ?_) (fun cdv A outer s H vs Q E hr h => ?_)
  · obtain ⟨r, fr, er, ps, N, lane, n, rfl, _⟩ := h
    rfl
  obtain ⟨r, fr, er, ps, N, lane, n, rfl, ok, na, nl, k⟩ := h
  refine ⟨_, (@pss_cons _ _ _ _ _ (@ps_set _ _ 3 _ _ _ _ scNx.nd rfl (Or.inl rfl) (@pe_ix _ _ _ _ _ _ _ ix_tup (@pv _ 0 _ _ (by rfl) (by first | exact Or.inl rfl | exact Or.inr (Or.inl rfl) | exact Or.inr (Or.inr rfl)) (by decide) (by decide)) pe_int (fun _ _ => rfl)) (by rfl) (by first | exact .inl rfl | exact .inr rfl | assumption)) (@pss_cons _ _ _ _ _ (@ps_while _ _ _ _ _ _ PassesOwn.never (@pw_and _ _ _ _ _ _ _ (@pt_cmpR _ _ _ _ _ _ _ _ op_lt (@pv _ 2 _ _ (by rfl) (by first | exact Or.inl rfl | exact Or.inr (Or.inl rfl) | exact Or.inr (Or.inr rfl)) (by decide) (by decide)) (@pe_callB _ _ _ _ _ _ _ _ _ call_len_seq (by rfl) G.len PySem.boot_len (@pa_cons _ _ _ _ _ (@pv _ 3 _ _ (by rfl) (by first | exact Or.inl rfl | exact Or.inr (Or.inl rfl) | exact Or.inr (Or.inr rfl)) (by decide) (by decide)) pa_nil (by rfl)) (by decide) (by decide) (by rfl) (by rfl)) (nomark _)) (@pw_and1 _ _ _ _ (@pt_cmpR _ _ _ _ _ _ _ _ op_notIn_seq (@pv _ 1 _ _ (by rfl) (by first | exact Or.inl rfl | exact Or.inr (Or.inl rfl) | exact Or.inr (Or.inr rfl)) (by decide) (by decide)) (@pe_ix _ _ _ _ _ _ _ ix_tup (@pv _ 3 _ _ (by rfl) (by first | exact Or.inl rfl | exact Or.inr (Or.inl rfl) | exact Or.inr (Or.inr rfl)) (by decide) (by decide)) (@pv _ 2 _ _ (by rfl) (by first | exact Or.inl rfl | exact Or.inr (Or.inl rfl) | exact Or.inr (Or.inr rfl)) (by decide) (by decide)) (fun _ _ => rfl)) (by rfl)))).pt (@pss_one _ _ _ (@ps_aug _ _ 2 _ _ _ _ _ _ scNx.nd rfl (Or.inl rfl) pe_int ip_add (by first | exact .inl rfl | exact .inr rfl | assumption)))) (@pss_one _ _ _ (@ps_ret _ _ _ _ (@pv _ 2 _ _ (by rfl) (by first | exact Or.inl rfl | exact Or.inr (Or.inl rfl) | exact Or.inr (Or.inr rfl)) (by decide) (by decide)))))), ?_⟩
  have pl := na.prs.len
  have fm := ok.fm
  refine ⟨_, rfl, r, _, _, _, rfl, rfl, SqT.of na.net, rfl, ?_⟩
  refine ⟨fun m σ H1 => H1 = H ∧ ∃ q : Nat, σ = [some (.ref r), some (.int lane), some (.int q), some (.ref fr)] ∧ n ≤ q ∧ q ≤ N.forks.length ∧ m = N.forks.length - q ∧ ∀ j g, n ≤ j → j < q → N.forks[j]? = some g → ¬ (lane = g.1 ∨ lane = g.2),
    ⟨_, rfl, n, rfl, Nat.le_refl _, nl, rfl, fun j g h1 h2 => by lia⟩, ?_⟩
  rintro m σ H1 ⟨rfl, q, rfl, nq, ql, em, hno⟩
  refine ⟨_, rfl, _, rfl, fr, _, rfl, .inr (SqT.of na.forks), _, _, rfl, rfl, _, rfl, ?_⟩
  by_cases z : q < N.forks.length
  · rw [decide_eq_true (show (q : Int) < ps.length by lia)]
    obtain ⟨a, g, ex, eg, ha⟩ := na.prs.get (i := q) (List.getElem?_eq_getElem (show q < ps.length by lia))
    have hat : atI ps ((q : Nat) : Int) = some (.ref a) := atI_nat (by rw [List.getElem?_eq_getElem (show q < ps.length by lia), ex])
    refine iteT ⟨_, rfl, _, rfl, _, rfl, fr, _, _, _, rfl, rfl, SqT.of na.forks, hat, a, _, rfl, .inr (SqT.of ha), rfl, rfl, _, rfl, ?_⟩
    show if (if true = true then !inV (V.int (lane : Nat)) [V.int (g.1 : Nat), V.int (g.2 : Nat)] else inV (V.int (lane : Nat)) [V.int (g.1 : Nat), V.int (g.2 : Nat)]) = true then _ else _
    rw [if_pos rfl, inTwo]
    by_cases on : lane = g.1 ∨ lane = g.2
    · rw [decide_eq_true on]
      refine iteF ⟨_, rfl, k q ⟨nq, ql, hno, fun g' eg' => ?_⟩⟩
      rw [eg] at eg'; obtain rfl := Option.some.inj eg'; exact on
    · rw [decide_eq_false on]
      refine iteT ⟨_, fun σ' H' hN => ⟨m - 1, by lia, hN⟩, ?_⟩
      refine ⟨_, rfl, _, _, rfl, rfl, rfl, q + 1, rfl, by lia, by lia, by lia, fun j g' h1 h2 h3 => ?_⟩
      by_cases e : j = q
      · subst e; rw [eg] at h3; obtain rfl := Option.some.inj h3; exact on
      · exact hno j g' h1 (by lia) h3
  · rw [decide_eq_false (show ¬ (q : Int) < ps.length by lia)]
    refine iteF (iteF ⟨_, rfl, k q ⟨nq, ql, hno, fun g' eg' => ?_⟩⟩)
    have := (List.getElem?_eq_some_iff.mp eg').1
    lia
end
end K20
end
section
set_option maxHeartbeats 4000001
namespace K20
open PySem L2 Own Bn
abbrev sWhole : Stmt := top 5
abbrev sBelow : Stmt := top 6
abbrev sFew : Stmt := top 7
abbrev sIsRow : Stmt := top 9
def spWhole (K : PySem.W.Frag) : Sp := fun vs H Q _ => ∃ x, vs = [x] ∧ AnyT K H x ∧ Q (.bl (wholeV x)) H
def spBelow (K : PySem.W.Frag) : Sp := fun vs H Q _ => ∃ x b, vs = [x, .int b] ∧ AnyT K H x ∧ Q (.bl (belowV b x)) H
def spFew (K : PySem.W.Frag) : Sp := fun vs H Q _ => ∃ x, vs = [x] ∧ AnyT K H x ∧ Q (.bl (fewV x)) H
def spIsRow (K : PySem.W.Frag) : Sp := fun vs H Q _ => ∃ x m, vs = [x, .int m] ∧ AnyT K H x ∧ Q (.bl (rowV H m x)) H
section
variable {P : Program} {w : World} {K : PySem.W.Frag} {mg : Str → Option Value} {base : Heap}
theorem scKw : FnScope ["thing"] ["thing"] (defScope sWhole) := ⟨rfl, rfl, rfl, by decide +kernel, rfl, by decide +kernel, by decide +kernel⟩
theorem ok_whole {f : Addr} {fd : FuncData} (F : Fun K "is_whole" "is_whole" sWhole f fd) (G : Mgs mg) : FnOk P w K mg base CX0 1 f fd ["thing"] (spWhole K) := by
  refine F.ok scKw (fun vs H Q E h => ?_) (fun cdv A outer s H vs Q E hr h => ?_)
  · obtain ⟨x, rfl, _⟩ := h
    rfl
  obtain ⟨x, rfl, ax, k⟩ := h
  refine ⟨_, (@pss_one _ _ _ (@ps_ret _ _ _ _ (@pe_and _ _ _ _ _ _ _ (@pe_callB _ _ _ _ _ _ _ _ _ call_isi (by rfl) G.isi (by rfl) (@pa_cons _ _ _ _ _ (@pv _ 0 _ _ (by rfl) (by first | exact Or.inl rfl | exact Or.inr (Or.inl rfl) | exact Or.inr (Or.inr rfl)) (by decide) (by decide)) (@pa_cons _ _ _ _ _ (@pe_bltn _ _ (.ty "int") (.type "int") _ (by rfl) G.int (by rfl) rfl (by decide) (by decide)) pa_nil (by rfl)) (by rfl)) (by decide) (by decide) (by rfl) (by rfl)) (@pe_one _ _ _ _ _ (@pe_not _ _ _ _ (@pe_callB _ _ _ _ _ _ _ _ _ call_isi (by rfl) G.isi (by rfl) (@pa_cons _ _ _ _ _ (@pv _ 0 _ _ (by rfl) (by first | exact Or.inl rfl | exact Or.inr (Or.inl rfl) | exact Or.inr (Or.inr rfl)) (by decide) (by decide)) (@pa_cons _ _ _ _ _ (@pe_bltn _ _ (.ty "bool") (.type "bool") _ (by rfl) G.bool (by rfl) rfl (by decide) (by decide)) pa_nil (by rfl)) (by rfl)) (by decide) (by decide) (by rfl) (by rfl))))))), ?_⟩
  obtain ⟨t, I⟩ := ax.isi
  refine ⟨_, rfl, _, "int", _, _, rfl, I.ty, I.int, _, rfl, ?_⟩
  cases x with
  | int i => exact iteT ⟨_, rfl, _, "bool", _, _, rfl, I.ty, I.bool, _, rfl, k⟩
  | bl b => exact iteT ⟨_, rfl, _, "bool", _, _, rfl, I.ty, I.bool, _, rfl, k⟩
  | non => exact iteF k
  | str z => exact iteF k
  | flt z => exact iteF k
  | byt z => exact iteF k
  | ref z => exact iteF k
  | ty z => exact iteF k
theorem scKb : FnScope ["thing", "bound"] ["thing", "bound"] (defScope sBelow) := ⟨rfl, rfl, rfl, by decide +kernel, rfl, by decide +kernel, by decide +kernel⟩
theorem ok_below {f fW : Addr} {fd dW : FuncData} (F : Fun K "is_below" "is_below" sBelow f fd) (G : Mgs mg) (UW : Use P w K mg base "is_whole" ["thing"] 1 (spWhole K) fW dW) : FnOk P w K mg base CX0 2 f fd ["thing", "bound"] (spBelow K) := by
  refine F.ok scKb (fun vs H Q E h => ?_) (fun cdv A outer s H vs Q E hr h => ?_)
  · obtain ⟨x, b, rfl, _⟩ := h
    rfl
  obtain ⟨x, b, rfl, ax, k⟩ := h
  refine ⟨_, (@pss_one _ _ _ (@ps_ret _ _ _ _ (@pe_and _ _ _ _ _ _ _ (@pe_call _ _ _ _ _ _ _ _ _ _ _ _ _ _ _ _ UW.ok hr (by rfl) UW.m UW.kp UW.b .nil pass0 (@pa_cons _ _ _ _ _ (@pv _ 0 _ _ (by rfl) (by first | exact Or.inl rfl | exact Or.inr (Or.inl rfl) | exact Or.inr (Or.inr rfl)) (by decide) (by decide)) pa_nil (by rfl)) (by decide) (by rfl) (by rfl)) (@pe_one _ _ _ _ _ (@pe_chain _ _ _ _ _ _ _ _ _ _ _ _ op_le op_lt pe_int (@pv _ 0 _ _ (by rfl) (by first | exact Or.inl rfl | exact Or.inr (Or.inl rfl) | exact Or.inr (Or.inr rfl)) (by decide) (by decide)) (@pv _ 1 _ _ (by rfl) (by first | exact Or.inl rfl | exact Or.inr (Or.inl rfl) | exact Or.inr (Or.inr rfl)) (by decide) (by decide)) (by with_unfolding_all rfl)))))), ?_⟩
  refine ⟨_, rfl, _, rfl, ax, _, rfl, ?_⟩
  cases x with
  | int i =>
    refine iteT ⟨_, rfl, _, _, rfl, rfl, _, rfl, ?_⟩
    have e : belowV b (.int i) = (decide (0 ≤ i) && decide (i < b)) := rfl
    rw [e] at k
    by_cases z : (0 : Int) ≤ i
    · rw [decide_eq_true z] at k ⊢
      exact iteT ⟨_, rfl, _, _, rfl, rfl, k⟩
    · rw [decide_eq_false z] at k ⊢
      exact iteF k
  | bl z => exact iteF k
  | non => exact iteF k
  | str z => exact iteF k
  | flt z => exact iteF k
  | byt z => exact iteF k
  | ref z => exact iteF k
  | ty z => exact iteF k
theorem scKf : FnScope ["thing"] ["thing"] (defScope sFew) := ⟨rfl, rfl, rfl, by decide +kernel, rfl, by decide +kernel, by decide +kernel⟩
theorem ok_few {f fW : Addr} {fd dW : FuncData} (F : Fun K "has_few_figures" "has_few_figures" sFew f fd) (G : Mgs mg) (UW : Use P w K mg base "is_whole" ["thing"] 1 (spWhole K) fW dW) : FnOk P w K mg base CX0 2 f fd ["thing"] (spFew K) := by
  refine F.ok scKf (fun vs H Q E h => ?_) (fun cdv A outer s H vs Q E hr h => ?_)
  · obtain ⟨x, rfl, _⟩ := h
    rfl
  obtain ⟨x, rfl, ax, k⟩ := h
  refine ⟨_, (@pss_one _ _ _ (@ps_ret _ _ _ _ (@pe_and _ _ _ _ _ _ _ (@pe_call _ _ _ _ _ _ _ _ _ _ _ _ _ _ _ _ UW.ok hr (by rfl) UW.m UW.kp UW.b .nil pass0 (@pa_cons _ _ _ _ _ (@pv _ 0 _ _ (by rfl) (by first | exact Or.inl rfl | exact Or.inr (Or.inl rfl) | exact Or.inr (Or.inr rfl)) (by decide) (by decide)) pa_nil (by rfl)) (by decide) (by rfl) (by rfl)) (@pe_one _ _ _ _ _ (@pe_cmpR _ _ _ _ _ _ _ _ op_lt (@pe_callB _ _ _ _ _ _ _ _ _ call_abs (by rfl) G.abs (by rfl) (@pa_cons _ _ _ _ _ (@pv _ 0 _ _ (by rfl) (by first | exact Or.inl rfl | exact Or.inr (Or.inl rfl) | exact Or.inr (Or.inr rfl)) (by decide) (by decide)) pa_nil (by rfl)) (by decide) (by decide) (by rfl) (by rfl)) (@pe_op _ _ _ _ _ _ _ _ op_pow pe_int pe_int) (nomark _)))))), ?_⟩
  refine ⟨_, rfl, _, rfl, ax, _, rfl, ?_⟩
  cases x with
  | int i => exact iteT ⟨_, rfl, _, rfl, _, _, rfl, rfl, ⟨by decide, by decide, by decide⟩, _, _, rfl, rfl, k⟩
  | bl z => exact iteF k
  | non => exact iteF k
  | str z => exact iteF k
  | flt z => exact iteF k
  | byt z => exact iteF k
  | ref z => exact iteF k
  | ty z => exact iteF k
theorem scKr : FnScope ["thing", "many"] ["thing", "many"] (defScope sIsRow) := ⟨rfl, rfl, rfl, by decide +kernel, rfl, by decide +kernel, by decide +kernel⟩
theorem ok_isrow {f : Addr} {fd : FuncData} (F : Fun K "is_row" "is_row" sIsRow f fd) (G : Mgs mg) : FnOk P w K mg base CX0 1 f fd ["thing", "many"] (spIsRow K) := by
  refine F.ok scKr (fun vs H Q E h => ?_) (fun cdv A outer s H vs Q E hr h => ?_)
  · obtain ⟨x, m, rfl, _⟩ := h
    rfl
  obtain ⟨x, m, rfl, ax, k⟩ := h
  refine ⟨_, (@pss_one _ _ _ (@ps_ret _ _ _ _ (@pe_and _ _ _ _ _ _ _ (@pe_callB _ _ _ _ _ _ _ _ _ call_isi (by rfl) G.isi (by rfl) (@pa_cons _ _ _ _ _ (@pv _ 0 _ _ (by rfl) (by first | exact Or.inl rfl | exact Or.inr (Or.inl rfl) | exact Or.inr (Or.inr rfl)) (by decide) (by decide)) (@pa_cons _ _ _ _ _ (@pe_bltn _ _ (.ty "tuple") (.type "tuple") _ (by rfl) G.tuple (by rfl) rfl (by decide) (by decide)) pa_nil (by rfl)) (by rfl)) (by decide) (by decide) (by rfl) (by rfl)) (@pe_one _ _ _ _ _ (@pe_cmpR _ _ _ _ _ _ _ _ op_eq (@pe_callB _ _ _ _ _ _ _ _ _ call_len_seq (by rfl) G.len PySem.boot_len (@pa_cons _ _ _ _ _ (@pv _ 0 _ _ (by rfl) (by first | exact Or.inl rfl | exact Or.inr (Or.inl rfl) | exact Or.inr (Or.inr rfl)) (by decide) (by decide)) pa_nil (by rfl)) (by decide) (by decide) (by rfl) (by rfl)) (@pv _ 1 _ _ (by rfl) (by first | exact Or.inl rfl | exact Or.inr (Or.inl rfl) | exact Or.inr (Or.inr rfl)) (by decide) (by decide)) (nomark _)))))), ?_⟩
  obtain ⟨t, I⟩ := ax.isi
  refine ⟨_, rfl, _, "tuple", _, _, rfl, I.ty, I.tup, _, rfl, ?_⟩
  cases z : rowOf H x with
  | none =>
    have e : rowV H m x = false := by unfold rowV; rw [z]
    rw [e] at k
    exact iteF k
  | some xs =>
    have e : rowV H m x = decide ((xs.length : Int) = m) := by unfold rowV; rw [z]
    rw [e] at k
    obtain ⟨a, rfl, ha⟩ := rowOf_some z
    exact iteT ⟨_, rfl, a, _, rfl, .inr (SqT.of ha), _, rfl, rfl, by rw [int_dec]; exact k⟩
end
end K20
end
section
set_option maxHeartbeats 4000001
namespace K20
open PySem L2 Own Bn
abbrev sWord : Stmt := top 8
abbrev sPlace : Stmt := top 16
abbrev sMany : Stmt := top 17
abbrev sDeed : Stmt := top 15
def spWord (K : PySem.W.Frag) : Sp := fun vs H Q _ => ∃ x w, vs = [x, .str w] ∧ AnyT K H x ∧ Q (.bl (wordV w x)) H
def spPlace (K : PySem.W.Frag) : Sp := fun vs H Q _ => ∃ x, vs = [x] ∧ AnyT K H x ∧ Q (.bl (fromV 0 x)) H
def manyV : V → Bool
  | .int i => fewV (.int i) && !decide (i = 0)
  | _ => false
def spMany (K : PySem.W.Frag) : Sp := fun vs H Q _ => ∃ x, vs = [x] ∧ AnyT K H x ∧ Q (.bl (manyV x)) H
def lowV (a : V) : V → Bool
  | .int j => belowV j a
  | _ => false
def deedOf (lanes : Int) : List V → Bool
  | [w, k] => wordV "step" w && fromV 0 k
  | [w, a, b] => if wordV "put" w = true then belowV lanes a && manyV b else wordV "join" w && (fromV 0 b && lowV a b)
  | _ => false
def deedV (H : Hp) (lanes : Int) (x : V) : Bool := match rowOf H x with
  | some xs => deedOf lanes xs
  | none => false
def spDeed (K : PySem.W.Frag) : Sp := fun vs H Q _ => ∃ r fr er ps N x, vs = [.ref r, x] ∧ NetAt H r fr er ps N ∧ AnyT K H x ∧ (∀ xs, rowOf H x = some xs → ∀ y ∈ xs, AnyT K H y) ∧ Q (.bl (deedV H N.lanes x)) H
section
variable {P : Program} {w : World} {K : PySem.W.Frag} {mg : Str → Option Value} {base : Heap}
theorem scKd : FnScope ["thing", "word"] ["thing", "word"] (defScope sWord) := ⟨rfl, rfl, rfl, by decide +kernel, rfl, by decide +kernel, by decide +kernel⟩
theorem ok_word {f : Addr} {fd : FuncData} (F : Fun K "is_word" "is_word" sWord f fd) (G : Mgs mg) : FnOk P w K mg base CX0 1 f fd ["thing", "word"] (spWord K) := by
  refine F.ok scKd (fun vs H Q E h => ?_) (fun cdv A outer s H vs Q E hr h => ?_)
  · obtain ⟨x, b, rfl, _⟩ := h
    rfl
  obtain ⟨x, b, rfl, ax, k⟩ := h
  refine ⟨_, (@pss_one _ _ _ (@ps_ret _ _ _ _ (@pe_and _ _ _ _ _ _ _ (@pe_callB _ _ _ _ _ _ _ _ _ call_isi (by rfl) G.isi (by rfl) (@pa_cons _ _ _ _ _ (@pv _ 0 _ _ (by rfl) (by first | exact Or.inl rfl | exact Or.inr (Or.inl rfl) | exact Or.inr (Or.inr rfl)) (by decide) (by decide)) (@pa_cons _ _ _ _ _ (@pe_bltn _ _ (.ty "str") (.type "str") _ (by rfl) G.str (by rfl) rfl (by decide) (by decide)) pa_nil (by rfl)) (by rfl)) (by decide) (by decide) (by rfl) (by rfl)) (@pe_one _ _ _ _ _ (@pe_cmpR _ _ _ _ _ _ _ _ op_eq (@pv _ 0 _ _ (by rfl) (by first | exact Or.inl rfl | exact Or.inr (Or.inl rfl) | exact Or.inr (Or.inr rfl)) (by decide) (by decide)) (@pv _ 1 _ _ (by rfl) (by first | exact Or.inl rfl | exact Or.inr (Or.inl rfl) | exact Or.inr (Or.inr rfl)) (by decide) (by decide)) (nomark _)))))), ?_⟩
  obtain ⟨t, I⟩ := ax.isi
  refine ⟨_, rfl, _, "str", _, _, rfl, I.ty, I.str, _, rfl, ?_⟩
  cases x with
  | str z => exact iteT ⟨_, rfl, _, rfl, rfl, by rw [str_dec]; exact k⟩
  | bl z => exact iteF k
  | non => exact iteF k
  | int z => exact iteF k
  | flt z => exact iteF k
  | byt z => exact iteF k
  | ref z => exact iteF k
  | ty z => exact iteF k
theorem scKp : FnScope ["thing"] ["thing"] (defScope sPlace) := ⟨rfl, rfl, rfl, by decide +kernel, rfl, by decide +kernel, by decide +kernel⟩
theorem ok_place {f fW : Addr} {fd dW : FuncData} (F : Fun K "is_place" "is_place" sPlace f fd) (G : Mgs mg) (UW : Use P w K mg base "is_whole" ["thing"] 1 (spWhole K) fW dW) : FnOk P w K mg base CX0 2 f fd ["thing"] (spPlace K) := by
  refine F.ok scKp (fun vs H Q E h => ?_) (fun cdv A outer s H vs Q E hr h => ?_)
  · obtain ⟨x, rfl, _⟩ := h
    rfl
  obtain ⟨x, rfl, ax, k⟩ := h
  refine ⟨_, (@pss_one _ _ _ (@ps_ret _ _ _ _ (@pe_and _ _ _ _ _ _ _ (@pe_call _ _ _ _ _ _ _ _ _ _ _ _ _ _ _ _ UW.ok hr (by rfl) UW.m UW.kp UW.b .nil pass0 (@pa_cons _ _ _ _ _ (@pv _ 0 _ _ (by rfl) (by first | exact Or.inl rfl | exact Or.inr (Or.inl rfl) | exact Or.inr (Or.inr rfl)) (by decide) (by decide)) pa_nil (by rfl)) (by decide) (by rfl) (by rfl)) (@pe_one _ _ _ _ _ (@pe_cmpR _ _ _ _ _ _ _ _ op_ge (@pv _ 0 _ _ (by rfl) (by first | exact Or.inl rfl | exact Or.inr (Or.inl rfl) | exact Or.inr (Or.inr rfl)) (by decide) (by decide)) pe_int (nomark _)))))), ?_⟩
  refine ⟨_, rfl, _, rfl, ax, _, rfl, ?_⟩
  cases x with
  | int i => exact iteT ⟨_, rfl, _, _, rfl, rfl, k⟩
  | bl z => exact iteF k
  | non => exact iteF k
  | str z => exact iteF k
  | flt z => exact iteF k
  | byt z => exact iteF k
  | ref z => exact iteF k
  | ty z => exact iteF k
theorem scKm : FnScope ["thing"] ["thing"] (defScope sMany) := ⟨rfl, rfl, rfl, by decide +kernel, rfl, by decide +kernel, by decide +kernel⟩
theorem ok_many {f fW : Addr} {fd dW : FuncData} (F : Fun K "is_many" "is_many" sMany f fd) (G : Mgs mg) (UF : Use P w K mg base "has_few_figures" ["thing"] 2 (spFew K) fW dW) : FnOk P w K mg base CX0 3 f fd ["thing"] (spMany K) := by
  refine F.ok scKm (fun vs H Q E h => ?_) (fun cdv A outer s H vs Q E hr h => ?_)
  · obtain ⟨x, rfl, _⟩ := h
    rfl
  obtain ⟨x, rfl, ax, k⟩ := h
  refine ⟨_, (@pss_one _ _ _ (@ps_ret _ _ _ _ (@pe_and _ _ _ _ _ _ _ (@pe_call _ _ _ _ _ _ _ _ _ _ _ _ _ _ _ _ UF.ok hr (by rfl) UF.m UF.kp UF.b .nil pass0 (@pa_cons _ _ _ _ _ (@pv _ 0 _ _ (by rfl) (by first | exact Or.inl rfl | exact Or.inr (Or.inl rfl) | exact Or.inr (Or.inr rfl)) (by decide) (by decide)) pa_nil (by rfl)) (by decide) (by rfl) (by rfl)) (@pe_one _ _ _ _ _ (@pe_cmpR _ _ _ _ _ _ _ _ op_ne (@pv _ 0 _ _ (by rfl) (by first | exact Or.inl rfl | exact Or.inr (Or.inl rfl) | exact Or.inr (Or.inr rfl)) (by decide) (by decide)) pe_int (nomark _)))))), ?_⟩
  refine ⟨_, rfl, _, rfl, ax, _, rfl, ?_⟩
  cases x with
  | int i =>
    have e : manyV (.int i) = (fewV (.int i) && !decide (i = 0)) := rfl
    rw [e] at k
    cases z : fewV (.int i) with
    | true => rw [z] at k; exact iteT ⟨_, rfl, rfl, by rw [int_dec]; exact k⟩
    | false => rw [z] at k; exact iteF k
  | bl z => exact iteF k
  | non => exact iteF k
  | str z => exact iteF k
  | flt z => exact iteF k
  | byt z => exact iteF k
  | ref z => exact iteF k
  | ty z => exact iteF k
theorem scKe : FnScope ["net", "thing", "word", "first", "second"] ["net", "thing"] (defScope sDeed) := ⟨rfl, rfl, rfl, by decide +kernel, rfl, by decide +kernel, by decide +kernel⟩
theorem ok_deed {f fR fD fB fM fP : Addr} {fd dR dD dB dM dP : FuncData} (F : Fun K "is_deed" "is_deed" sDeed f fd) (G : Mgs mg) (UR : Use P w K mg base "is_row" ["thing", "many"] 1 (spIsRow K) fR dR) (UD : Use P w K mg base "is_word" ["thing", "word"] 1 (spWord K) fD dD)
    (UB : Use P w K mg base "is_below" ["thing", "bound"] 2 (spBelow K) fB dB) (UM : Use P w K mg base "is_many" ["thing"] 3 (spMany K) fM dM) (UPl : Use P w K mg base "is_place" ["thing"] 2 (spPlace K) fP dP) : FnOk P w K mg base CX0 4 f fd ["net", "thing"] (spDeed K) := by
  refine F.ok scKe (fun vs H Q E h => ?_) (fun cdv A outer s H vs Q E hr h => ?_)
  · obtain ⟨r, fr, er, ps, N, x, rfl, _⟩ := h
    rfl
  obtain ⟨r, fr, er, ps, N, x, rfl, na, ax, ay, k⟩ := h
  have hr1 : Room 1 _ := hr.mono (by decide)
  have hr2 : Room 2 _ := hr.mono (by decide)
  refine ⟨_, (@pss_cons _ _ _ _ _ (@ps_if _ _ _ _ _ _ _ _ (@pt_truth _ _ _ (@pe_call _ _ _ _ _ _ _ _ _ _ _ _ _ _ _ _ UR.ok hr1 (by rfl) UR.m UR.kp UR.b .nil pass0 (@pa_cons _ _ _ _ _ (@pv _ 1 _ _ (by rfl) (by first | exact Or.inl rfl | exact Or.inr (Or.inl rfl) | exact Or.inr (Or.inr rfl)) (by decide) (by decide)) (@pa_cons _ _ _ _ _ pe_int pa_nil (by rfl)) (by rfl)) (by decide) (by rfl) (by rfl)) (fun _ => rfl)) (@pss_one _ _ _ (@ps_ret _ _ _ _ (@pe_and _ _ _ _ _ _ _ (@pe_call _ _ _ _ _ _ _ _ _ _ _ _ _ _ _ _ UD.ok hr1 (by rfl) UD.m UD.kp UD.b .nil pass0 (@pa_cons _ _ _ _ _ (@pe_ix _ _ _ _ _ _ _ ix_tup (@pv _ 1 _ _ (by rfl) (by first | exact Or.inl rfl | exact Or.inr (Or.inl rfl) | exact Or.inr (Or.inr rfl)) (by decide) (by decide)) pe_int (fun _ _ => rfl)) (@pa_cons _ _ _ _ _ pe_str pa_nil (by rfl)) (by rfl)) (by decide) (by rfl) (by rfl)) (@pe_one _ _ _ _ _ (@pe_call _ _ _ _ _ _ _ _ _ _ _ _ _ _ _ _ UPl.ok hr2 (by rfl) UPl.m UPl.kp UPl.b .nil pass0 (@pa_cons _ _ _ _ _ (@pe_ix _ _ _ _ _ _ _ ix_tup (@pv _ 1 _ _ (by rfl) (by first | exact Or.inl rfl | exact Or.inr (Or.inl rfl) | exact Or.inr (Or.inr rfl)) (by decide) (by decide)) pe_int (fun _ _ => rfl)) pa_nil (by rfl)) (by decide) (by rfl) (by rfl)))))) pss_nil) (@pss_cons _ _ _ _ _ (@ps_if _ _ _ _ _ _ _ _ (@pt_not _ _ _ _ (@pt_truth _ _ _ (@pe_call _ _ _ _ _ _ _ _ _ _ _ _ _ _ _ _ UR.ok hr1 (by rfl) UR.m UR.kp UR.b .nil pass0 (@pa_cons _ _ _ _ _ (@pv _ 1 _ _ (by rfl) (by first | exact Or.inl rfl | exact Or.inr (Or.inl rfl) | exact Or.inr (Or.inr rfl)) (by decide) (by decide)) (@pa_cons _ _ _ _ _ pe_int pa_nil (by rfl)) (by rfl)) (by decide) (by rfl) (by rfl)) (fun _ => rfl))) (@pss_one _ _ _ (@ps_ret _ _ _ _ pe_bl)) pss_nil) (@pss_cons _ _ _ _ _ (@ps_asg _ _ _ _ _ _ (@pv _ 1 _ _ (by rfl) (by first | exact Or.inl rfl | exact Or.inr (Or.inl rfl) | exact Or.inr (Or.inr rfl)) (by decide) (by decide)) (@pg_tup _ _ _ _ _ _ rfl (@pgs_cons _ _ _ _ _ (@pg_name _ _ 2 _ scKe.nd rfl (Or.inl rfl) (by first | exact .inl rfl | exact .inr rfl | assumption)) (@pgs_cons _ _ _ _ _ (@pg_name _ _ 3 _ scKe.nd rfl (Or.inl rfl) (by first | exact .inl rfl | exact .inr rfl | assumption)) (@pgs_cons _ _ _ _ _ (@pg_name _ _ 4 _ scKe.nd rfl (Or.inl rfl) (by first | exact .inl rfl | exact .inr rfl | assumption)) pgs_nil (by rfl)) (by rfl)) (by rfl)) (by rfl) (by rfl)) (by rfl) (by rfl) (by rfl)) (@pss_cons _ _ _ _ _ (@ps_if _ _ _ _ _ _ _ _ (@pt_truth _ _ _ (@pe_call _ _ _ _ _ _ _ _ _ _ _ _ _ _ _ _ UD.ok hr1 (by rfl) UD.m UD.kp UD.b .nil pass0 (@pa_cons _ _ _ _ _ (@pv _ 2 _ _ (by rfl) (by first | exact Or.inl rfl | exact Or.inr (Or.inl rfl) | exact Or.inr (Or.inr rfl)) (by decide) (by decide)) (@pa_cons _ _ _ _ _ pe_str pa_nil (by rfl)) (by rfl)) (by decide) (by rfl) (by rfl)) (fun _ => rfl)) (@pss_one _ _ _ (@ps_ret _ _ _ _ (@pe_and _ _ _ _ _ _ _ (@pe_call _ _ _ _ _ _ _ _ _ _ _ _ _ _ _ _ UB.ok hr2 (by rfl) UB.m UB.kp UB.b .nil pass0 (@pa_cons _ _ _ _ _ (@pv _ 3 _ _ (by rfl) (by first | exact Or.inl rfl | exact Or.inr (Or.inl rfl) | exact Or.inr (Or.inr rfl)) (by decide) (by decide)) (@pa_cons _ _ _ _ _ (@pe_ix _ _ _ _ _ _ _ ix_tup (@pv _ 0 _ _ (by rfl) (by first | exact Or.inl rfl | exact Or.inr (Or.inl rfl) | exact Or.inr (Or.inr rfl)) (by decide) (by decide)) pe_int (fun _ _ => rfl)) pa_nil (by rfl)) (by rfl)) (by decide) (by rfl) (by rfl)) (@pe_one _ _ _ _ _ (@pe_call _ _ _ _ _ _ _ _ _ _ _ _ _ _ _ _ UM.ok hr (by rfl) UM.m UM.kp UM.b .nil pass0 (@pa_cons _ _ _ _ _ (@pv _ 4 _ _ (by rfl) (by first | exact Or.inl rfl | exact Or.inr (Or.inl rfl) | exact Or.inr (Or.inr rfl)) (by decide) (by decide)) pa_nil (by rfl)) (by decide) (by rfl) (by rfl)))))) pss_nil) (@pss_one _ _ _ (@ps_ret _ _ _ _ (@pe_and _ _ _ _ _ _ _ (@pe_call _ _ _ _ _ _ _ _ _ _ _ _ _ _ _ _ UD.ok hr1 (by rfl) UD.m UD.kp UD.b .nil pass0 (@pa_cons _ _ _ _ _ (@pv _ 2 _ _ (by rfl) (by first | exact Or.inl rfl | exact Or.inr (Or.inl rfl) | exact Or.inr (Or.inr rfl)) (by decide) (by decide)) (@pa_cons _ _ _ _ _ pe_str pa_nil (by rfl)) (by rfl)) (by decide) (by rfl) (by rfl)) (@pe_and _ _ _ _ _ _ _ (@pe_call _ _ _ _ _ _ _ _ _ _ _ _ _ _ _ _ UPl.ok hr2 (by rfl) UPl.m UPl.kp UPl.b .nil pass0 (@pa_cons _ _ _ _ _ (@pv _ 4 _ _ (by rfl) (by first | exact Or.inl rfl | exact Or.inr (Or.inl rfl) | exact Or.inr (Or.inr rfl)) (by decide) (by decide)) pa_nil (by rfl)) (by decide) (by rfl) (by rfl)) (@pe_one _ _ _ _ _ (@pe_call _ _ _ _ _ _ _ _ _ _ _ _ _ _ _ _ UB.ok hr2 (by rfl) UB.m UB.kp UB.b .nil pass0 (@pa_cons _ _ _ _ _ (@pv _ 3 _ _ (by rfl) (by first | exact Or.inl rfl | exact Or.inr (Or.inl rfl) | exact Or.inr (Or.inr rfl)) (by decide) (by decide)) (@pa_cons _ _ _ _ _ (@pv _ 4 _ _ (by rfl) (by first | exact Or.inl rfl | exact Or.inr (Or.inl rfl) | exact Or.inr (Or.inr rfl)) (by decide) (by decide)) pa_nil (by rfl)) (by rfl)) (by decide) (by rfl) (by rfl))))))))))), ?_⟩
  refine ⟨_, rfl, _, _, rfl, ax, _, rfl, ?_⟩
  cases z : rowOf H x with
  | none =>
    have e2 : ∀ m, rowV H m x = false := fun m => by unfold rowV; rw [z]
    have e3 : deedV H N.lanes x = false := by unfold deedV; rw [z]
    rw [e3] at k
    rw [e2]
    refine iteF ⟨_, rfl, _, _, rfl, ax, _, rfl, ?_⟩
    rw [e2]
    exact iteT k
  | some xs =>
    have e2 : ∀ m, rowV H m x = decide ((xs.length : Int) = m) := fun m => by unfold rowV; rw [z]
    have e3 : deedV H N.lanes x = deedOf N.lanes xs := by unfold deedV; rw [z]
    rw [e3] at k
    obtain ⟨a, rfl, ha⟩ := rowOf_some z
    have ay' := ay xs z
    rw [e2]
    match xs, k, ha, ay', e2 with
    | [], k, ha, ay', e2 =>
      refine iteF ⟨_, rfl, _, _, rfl, ax, _, rfl, ?_⟩
      rw [e2]; exact iteT k
    | [_], k, ha, ay', e2 =>
      refine iteF ⟨_, rfl, _, _, rfl, ax, _, rfl, ?_⟩
      rw [e2]; exact iteT k
    | [u, v], k, ha, ay', e2 =>
      have k' : Q (.bl (wordV "step" u && fromV 0 v)) H := k
      refine iteT ⟨_, rfl, a, _, _, _, rfl, rfl, SqT.of ha, rfl, _, _, rfl, ay' u (by simp), _, rfl, ?_⟩
      cases y : wordV "step" u with
      | true => rw [y] at k'; exact iteT ⟨_, rfl, a, _, _, _, rfl, rfl, SqT.of ha, rfl, _, rfl, ay' v (by simp), k'⟩
      | false => rw [y] at k'; exact iteF k'
    | [u, v, t], k, ha, ay', e2 =>
      have k' : Q (.bl (if wordV "put" u = true then belowV N.lanes v && manyV t else wordV "join" u && (fromV 0 t && lowV v t))) H := k
      refine iteF ⟨_, rfl, _, _, rfl, ax, _, rfl, ?_⟩
      rw [e2]
      refine iteF ⟨_, rfl, a, _, rfl, SqT.of ha, rfl, _, _, rfl, _, _, rfl, _, _, rfl, rfl, ?_⟩
      refine ⟨_, rfl, _, _, rfl, ay' u (by simp), _, rfl, ?_⟩
      cases y : wordV "put" u with
      | true =>
        rw [y, if_pos rfl] at k'
        refine iteT ⟨_, rfl, _, rfl, r, _, _, _, rfl, rfl, SqT.of na.net, rfl, _, _, rfl, ay' v (by simp), _, rfl, ?_⟩
        cases q : belowV N.lanes v with
        | true => rw [q] at k'; exact iteT ⟨_, rfl, _, rfl, ay' t (by simp), k'⟩
        | false => rw [q] at k'; exact iteF k'
      | false =>
        rw [y, if_neg (by decide)] at k'
        refine iteF ⟨_, rfl, _, _, rfl, ay' u (by simp), _, rfl, ?_⟩
        cases q : wordV "join" u with
        | false => rw [q] at k'; exact iteF k'
        | true =>
          rw [q] at k'
          refine iteT ⟨_, rfl, _, rfl, ay' t (by simp), _, rfl, ?_⟩
          cases p : fromV 0 t with
          | false => rw [p] at k'; exact iteF k'
          | true =>
            rw [p] at k'
            cases t with
            | int j => exact iteT ⟨_, rfl, _, rfl, _, _, rfl, ay' v (by simp), k'⟩
            | _ => cases p
    | _ :: _ :: _ :: _ :: _, k, ha, ay', e2 =>
      rw [decide_eq_false (by simp only [List.length_cons]; lia)]
      refine iteF ⟨_, rfl, _, _, rfl, ax, _, rfl, ?_⟩
      rw [e2, decide_eq_false (by simp only [List.length_cons]; lia)]; exact iteT k
end
end K20
end
section
set_option maxHeartbeats 4000001
namespace K20
open PySem L2 Own Bn
abbrev sBegun : Stmt := top 14
abbrev sPutB : Stmt := top 19
def spBegun : Sp := fun vs H Q _ => ∃ r fr er ps N, vs = [.ref r] ∧ Nt.Ok N ∧ NetAt H r fr er ps N ∧ ∀ sc tr gr ou H', Same H H' → SceneAt H' sc tr gr ou [] (List.replicate N.forks.length 0) [] (List.replicate N.lanes 0) → Q (.ref sc) H'
def spPutB : Sp := fun vs H Q _ => ∃ r fr er ps N sc tr gr ou qs ts gs os, ∃ (lane : Nat) (many : Int), vs = [.ref r, .ref sc, .int lane, .int many] ∧ Nt.Ok N ∧ NetAt H r fr er ps N ∧ SceneAt H sc tr gr ou qs ts gs os ∧ gs.length ≤ 900 ∧
  ∀ k sc' gr' qs' H', IsNext N.forks lane 0 k → Same H H' → SceneAt H' sc' tr gr' ou qs' ts (gs ++ [⟨many, lane, k⟩]) os → Q (.ref sc') H'
section
variable {P : Program} {w : World} {K : PySem.W.Frag} {mg : Str → Option Value} {base : Heap}
theorem scBe : FnScope ["net", "lanes", "forks", "ends"] ["net"] (defScope sBegun) := ⟨rfl, rfl, rfl, by decide +kernel, rfl, by decide +kernel, by decide +kernel⟩
theorem ok_begun {f : Addr} {fd : FuncData} (F : Fun K "begun" "begun" sBegun f fd) (G : Mgs mg) : FnOk P w K mg base CX0 1 f fd ["net"] spBegun := by
  refine F.ok scBe (fun vs H Q E h => ?_) (fun cdv A outer s H vs Q E hr h => ?_)
  · obtain ⟨r, fr, er, ps, N, rfl, _⟩ := h
    rfl
  obtain ⟨r, fr, er, ps, N, rfl, ok, na, k⟩ := h
  refine ⟨_, (@pss_cons _ _ _ _ _ (@ps_asg _ _ _ _ _ _ (@pv _ 0 _ _ (by rfl) (by first | exact Or.inl rfl | exact Or.inr (Or.inl rfl) | exact Or.inr (Or.inr rfl)) (by decide) (by decide)) (@pg_tup _ _ _ _ _ _ rfl (@pgs_cons _ _ _ _ _ (@pg_name _ _ 1 _ scBe.nd rfl (Or.inl rfl) (by first | exact .inl rfl | exact .inr rfl | assumption)) (@pgs_cons _ _ _ _ _ (@pg_name _ _ 2 _ scBe.nd rfl (Or.inl rfl) (by first | exact .inl rfl | exact .inr rfl | assumption)) (@pgs_cons _ _ _ _ _ (@pg_name _ _ 3 _ scBe.nd rfl (Or.inl rfl) (by first | exact .inl rfl | exact .inr rfl | assumption)) pgs_nil (by rfl)) (by rfl)) (by rfl)) (by rfl) (by rfl)) (by rfl) (by rfl) (by rfl)) (@pss_one _ _ _ (@ps_ret _ _ _ _ (@pe_tup _ _ _ _ _ (@pa_cons _ _ _ _ _ (@pe_op _ _ _ _ _ _ _ _ op_rep1 (@pe_tup _ _ _ _ _ (@pa_cons _ _ _ _ _ pe_int pa_nil (by rfl))) (@pe_callB _ _ _ _ _ _ _ _ _ call_len_seq (by rfl) G.len PySem.boot_len (@pa_cons _ _ _ _ _ (@pv _ 2 _ _ (by rfl) (by first | exact Or.inl rfl | exact Or.inr (Or.inl rfl) | exact Or.inr (Or.inr rfl)) (by decide) (by decide)) pa_nil (by rfl)) (by decide) (by decide) (by rfl) (by rfl))) (@pa_cons _ _ _ _ _ (@pe_tup _ _ _ _ _ pa_nil) (@pa_cons _ _ _ _ _ (@pe_op _ _ _ _ _ _ _ _ op_rep1 (@pe_tup _ _ _ _ _ (@pa_cons _ _ _ _ _ pe_int pa_nil (by rfl))) (@pv _ 1 _ _ (by rfl) (by first | exact Or.inl rfl | exact Or.inr (Or.inl rfl) | exact Or.inr (Or.inr rfl)) (by decide) (by decide))) pa_nil (by rfl)) (by rfl)) (by rfl)))))), ?_⟩
  have pl := na.prs.len
  have fm := ok.fm
  have l16 := ok.l16
  refine ⟨_, rfl, r, _, rfl, SqT.of na.net, rfl, _, _, rfl, _, _, rfl, _, _, rfl, rfl, ?_⟩
  refine ⟨(by show 1 ≤ sizeLine; decide), fun t1 ht1 => ?_⟩
  have s1 := same_new ht1 (.tup [.int 0])
  refine ⟨_, rfl, fr, _, rfl, .inr (SqT.of (s1 _ _ na.forks)), t1, _, _, rfl, rfl, upd_same, by lia, fun tr H2 s2 h2 => ?_⟩
  refine ⟨(by show 0 ≤ sizeLine; decide), fun gr hgr => ?_⟩
  have s3 := same_new hgr (.tup [])
  refine ⟨(by show 1 ≤ sizeLine; decide), fun t2 ht2 => ?_⟩
  have s4 := same_new ht2 (.tup [.int 0])
  refine ⟨_, rfl, t2, _, _, rfl, rfl, upd_same, by lia, fun ou H5 s5 h5 => ?_⟩
  refine ⟨(by show 3 ≤ sizeLine; decide), fun sc hsc => ?_⟩
  have s6 := same_new hsc (.tup [.ref tr, .ref gr, .ref ou])
  have t36 := (s4.trans s5).trans s6
  refine k sc tr gr ou _ ((s1.trans s2).trans (s3.trans t36)) ⟨upd_same, ?_, t36 _ _ upd_same, trivial, ?_⟩
  · rw [(s3.trans t36) _ _ h2, List.map_replicate, pl]
  · rw [s6 _ _ h5, List.map_replicate]
theorem scPb : FnScope ["net", "scene", "lane", "many", "turns", "groups", "out"] ["net", "scene", "lane", "many"] (defScope sPutB) := ⟨rfl, rfl, rfl, by decide +kernel, rfl, by decide +kernel, by decide +kernel⟩
theorem ok_putb {f fN : Addr} {fd dN : FuncData} (F : Fun K "put_behind" "put_behind" sPutB f fd) (G : Mgs mg) (UN : Use P w K mg base "next_fork" ["net", "lane", "number"] 1 spNext fN dN) : FnOk P w K mg base CX0 2 f fd ["net", "scene", "lane", "many"] spPutB := by
  refine F.ok scPb (fun vs H Q E h => ?_) (fun cdv A outer s H vs Q E hr h => ?_)
  · obtain ⟨r, fr, er, ps, N, sc, tr, gr, ou, qs, ts, gs, os, lane, many, rfl, _⟩ := h
    rfl
  obtain ⟨r, fr, er, ps, N, sc, tr, gr, ou, qs, ts, gs, os, lane, many, rfl, ok, na, sa, gl, k⟩ := h
  refine ⟨_, (@pss_cons _ _ _ _ _ (@ps_asg _ _ _ _ _ _ (@pv _ 1 _ _ (by rfl) (by first | exact Or.inl rfl | exact Or.inr (Or.inl rfl) | exact Or.inr (Or.inr rfl)) (by decide) (by decide)) (@pg_tup _ _ _ _ _ _ rfl (@pgs_cons _ _ _ _ _ (@pg_name _ _ 4 _ scPb.nd rfl (Or.inl rfl) (by first | exact .inl rfl | exact .inr rfl | assumption)) (@pgs_cons _ _ _ _ _ (@pg_name _ _ 5 _ scPb.nd rfl (Or.inl rfl) (by first | exact .inl rfl | exact .inr rfl | assumption)) (@pgs_cons _ _ _ _ _ (@pg_name _ _ 6 _ scPb.nd rfl (Or.inl rfl) (by first | exact .inl rfl | exact .inr rfl | assumption)) pgs_nil (by rfl)) (by rfl)) (by rfl)) (by rfl) (by rfl)) (by rfl) (by rfl) (by rfl)) (@pss_one _ _ _ (@ps_ret _ _ _ _ (@pe_tup _ _ _ _ _ (@pa_cons _ _ _ _ _ (@pv _ 4 _ _ (by rfl) (by first | exact Or.inl rfl | exact Or.inr (Or.inl rfl) | exact Or.inr (Or.inr rfl)) (by decide) (by decide)) (@pa_cons _ _ _ _ _ (@pe_op _ _ _ _ _ _ _ _ op_catH (@pv _ 5 _ _ (by rfl) (by first | exact Or.inl rfl | exact Or.inr (Or.inl rfl) | exact Or.inr (Or.inr rfl)) (by decide) (by decide)) (@pe_tup _ _ _ _ _ (@pa_cons _ _ _ _ _ (@pe_tup _ _ _ _ _ (@pa_cons _ _ _ _ _ (@pv _ 3 _ _ (by rfl) (by first | exact Or.inl rfl | exact Or.inr (Or.inl rfl) | exact Or.inr (Or.inr rfl)) (by decide) (by decide)) (@pa_cons _ _ _ _ _ (@pv _ 2 _ _ (by rfl) (by first | exact Or.inl rfl | exact Or.inr (Or.inl rfl) | exact Or.inr (Or.inr rfl)) (by decide) (by decide)) (@pa_cons _ _ _ _ _ (@pe_call _ _ _ _ _ _ _ _ _ _ _ _ _ _ _ _ UN.ok hr (by rfl) UN.m UN.kp UN.b .nil pass0 (@pa_cons _ _ _ _ _ (@pv _ 0 _ _ (by rfl) (by first | exact Or.inl rfl | exact Or.inr (Or.inl rfl) | exact Or.inr (Or.inr rfl)) (by decide) (by decide)) (@pa_cons _ _ _ _ _ (@pv _ 2 _ _ (by rfl) (by first | exact Or.inl rfl | exact Or.inr (Or.inl rfl) | exact Or.inr (Or.inr rfl)) (by decide) (by decide)) (@pa_cons _ _ _ _ _ pe_int pa_nil (by rfl)) (by rfl)) (by rfl)) (by decide) (by rfl) (by rfl)) pa_nil (by rfl)) (by rfl)) (by rfl))) pa_nil (by rfl)))) (@pa_cons _ _ _ _ _ (@pv _ 6 _ _ (by rfl) (by first | exact Or.inl rfl | exact Or.inr (Or.inl rfl) | exact Or.inr (Or.inr rfl)) (by decide) (by decide)) pa_nil (by rfl)) (by rfl)) (by rfl)))))), ?_⟩
  have ql := sa.grs.len
  refine ⟨_, rfl, sc, _, rfl, SqT.of sa.sc, rfl, _, _, rfl, _, _, rfl, _, _, rfl, rfl, ?_⟩
  refine ⟨_, rfl, _, rfl, _, rfl, _, rfl, _, rfl, _, rfl, r, fr, er, ps, N, lane, 0, rfl, ok, na, Nat.zero_le _, fun n hn => ?_⟩
  refine ⟨(by show 3 ≤ sizeLine; decide), fun t1 h1 => ?_⟩
  have s1 := same_new h1 (.tup [.int many, .int lane, .int n])
  refine ⟨(by show 1 ≤ sizeLine; decide), fun t2 h2 => ?_⟩
  have s2 := same_new h2 (.tup [.ref t1])
  refine ⟨gr, t2, _, _, rfl, rfl, (s1.trans s2) _ _ sa.gr, upd_same, ?_, fun g' H3 s3 h3 => ?_⟩
  · rw [ql]; show gs.length + 1 ≤ _; exact Nat.le_trans (show gs.length + 1 ≤ 1000 by lia) (by decide)
  refine ⟨_, rfl, (by show 3 ≤ sizeLine; decide), fun sc' h4 => ?_⟩
  have s4 := same_new h4 (.tup [.ref tr, .ref g', .ref ou])
  have st := (s1.trans s2).trans (s3.trans s4)
  exact k n sc' g' (qs ++ [.ref t1]) _ hn st ⟨upd_same, st _ _ sa.tr, s4 _ _ h3, (sa.grs.tups (Tups.of st)).app (Grs.one (g := ⟨many, lane, n⟩) ((s2.trans (s3.trans s4)) _ _ upd_same)), st _ _ sa.ou⟩
end
end K20
end
section
set_option maxHeartbeats 4000001
namespace Bn
open PySem L2 Own
theorem idx_cast (k : Nat) : ∀ es : List Nat, (es.map fun (e : Nat) => (e : Int)).idxOf (k : Int) = es.idxOf k
  | [] => rfl
  | e :: es => by
    rw [List.map_cons, List.idxOf_cons, List.idxOf_cons, idx_cast k es]
    have : ((e : Int) == (k : Int)) = (e == k) := by
      rw [Bool.eq_iff_iff, beq_iff_eq]; rw [beq_iff_eq]; lia
    rw [this]
theorem nums_map (es : List Nat) : nums es = (es.map fun (e : Nat) => (e : Int)).map V.int := by unfold nums; rw [List.map_map]; rfl
def spEnd : Sp := fun vs H Q _ => ∃ r fr er ps N, ∃ lane : Nat, vs = [.ref r, .int lane] ∧ Nt.Ok N ∧ NetAt H r fr er ps N ∧ lane < N.lanes ∧ Q (.int (N.ends.idxOf lane : Nat)) H
end Bn
end
section
set_option maxHeartbeats 4000001
namespace Bn
open PySem L2 Own
theorem set_cut (xs : List Int) (i : Nat) (v : Int) (h : i < xs.length) : (xs.map V.int).take i ++ [V.int v] ++ (xs.map V.int).drop (i + 1) = (xs.set i v).map V.int := by
  rw [List.set_eq_take_append_cons_drop, if_pos h, List.map_append, List.map_cons, List.map_take, List.map_drop, List.append_assoc]; rfl
def part (m : Int) (lane k : Nat) : List Grp := if m = 0 then [] else [⟨m, lane, k⟩]
def Parts (fs : List (Nat × Nat)) (t m : Int) (n : Nat) (gs : List Grp) : Prop := ∃ f k1 k2, fs[n]? = some f ∧ IsNext fs f.1 (n + 1) k1 ∧ IsNext fs f.2 (n + 1) k2 ∧ gs = part ((t + m + 1) / 2 - t) f.1 k1 ++ part (m - ((t + m + 1) / 2 - t)) f.2 k2
theorem Parts.len {fs : List (Nat × Nat)} {t m : Int} {n : Nat} {gs : List Grp} (h : Parts fs t m n gs) : gs.length ≤ 2 := by
  obtain ⟨f, k1, k2, _, _, _, rfl⟩ := h
  unfold part
  rw [List.length_append]
  split <;> split <;> simp
def StepTo (N : Nt) (place : Nat) (ts : List Int) (gs : List Grp) (os : List Int) (ts' : List Int) (gs' : List Grp) (os' : List Int) : Prop := ∃ g, gs[place]? = some g ∧
  ((g.fork = N.forks.length ∧ ts' = ts ∧ gs' = gs.take place ++ gs.drop (place + 1) ∧ os' = os.set (N.ends.idxOf g.lane) (os.getD (N.ends.idxOf g.lane) 0 + g.many)) ∨
   (g.fork < N.forks.length ∧ ts' = ts.set g.fork ((ts.getD g.fork 0 + g.many) % 2) ∧ os' = os ∧ ∃ ms, Parts N.forks (ts.getD g.fork 0) g.many g.fork ms ∧ gs' = gs.take place ++ ms ++ gs.drop (place + 1)))
def JoinTo (first second : Nat) (gs gs' : List Grp) : Prop := ∃ g h, gs[first]? = some g ∧ gs[second]? = some h ∧ gs' = gs.take first ++ part (g.many + h.many) g.lane g.fork ++ (gs.drop (first + 1)).take (second - (first + 1)) ++ gs.drop (second + 1)
theorem next_ex (fs : List (Nat × Nat)) (lane : Nat) : ∀ n, n ≤ fs.length → ∃ k, IsNext fs lane n k := by
  have go : ∀ d n, n + d = fs.length → ∃ k, IsNext fs lane n k := by
    intro d
    induction d with
    | zero =>
      intro n h
      refine ⟨n, Nat.le_refl _, by lia, fun j g a b => by lia, fun g e => ?_⟩
      rw [List.getElem?_eq_none (by lia)] at e; cases e
    | succ d ih =>
      intro n h
      have nl : n < fs.length := by lia
      by_cases z : lane = fs[n].1 ∨ lane = fs[n].2
      · refine ⟨n, Nat.le_refl _, by lia, fun j g a b => by lia, fun g e => ?_⟩
        rw [List.getElem?_eq_getElem nl] at e
        rw [← Option.some.inj e]; exact z
      · obtain ⟨k, hk⟩ := ih (n + 1) (by lia)
        refine ⟨k, by have := hk.from_; lia, hk.upto, fun j g a b e => ?_, hk.here⟩
        by_cases y : j = n
        · subst y
          rw [List.getElem?_eq_getElem nl] at e
          rw [← Option.some.inj e]; exact z
        · exact hk.none j g (by lia) b e
  exact fun n h => go (fs.length - n) n (by lia)
theorem cut_mid (xs : List V) (i j : Nat) (h1 : i ≤ j) (h2 : j ≤ xs.length) : cutV xs (some (i : Int)) (some (j : Int)) = (xs.drop i).take (j - i) := by
  unfold cutV
  rw [HT.sIx_nat, HT.sIx_nat, Nat.min_eq_left h2, Nat.min_eq_left (Nat.le_trans h1 h2)]
end Bn
end
section
set_option maxHeartbeats 4000001
namespace L2
open PySem PySem.Spec PyProof.Rows Own
section
variable {X : Cx} {pos : Pos}
end
end L2
namespace Bn
open PySem L2 Own
end Bn
end
section
set_option maxHeartbeats 4000001
namespace L2
open PySem PySem.Spec PyProof.Rows Own
section
variable {prog : Program} {w : World} {A : Around} {R : Result → Shared → Prop} {I S : Addr} {fp wr : List Addr} {n : Nat} {P : Nat → Value → Prop} {St : Nat → Heap → Prop}
end
section
variable {prog : Program} {w : World} {A : Around} {E : Value → Shared → Prop} {s : Shared}
end
section
variable {X : Cx}
end
end L2
end
section
set_option maxHeartbeats 4000001
namespace L2
open PySem PySem.Spec PyProof.Rows Own
theorem lc_tupT {K : PySem.W.Frag} {a : Addr} {xs : List V} {g : TG} {tt : TT} {te : TE} {l : Addr} {σ : St} {H : Hp} {Q : VK} (Pv : Nat → List V → St → Hp → Prop) (h0 : Pv 0 [] σ H) (hl : ∀ i acc σ H, Pv i acc σ H → H l = some (.lst acc) ∧ SqT K H a xs)
    (hs : ∀ i x acc σ H, xs[i]? = some x → Pv i acc σ H → g x σ H fun σ3 H3 => tt σ3 H3 fun b H4 => if b = true then te σ3 H4 fun y H5 => H5 l = some (.lst acc) ∧ acc.length < sizeLine ∧ Nx xs.length i (Pv (i + 1) (acc ++ [y]) σ3 (upd H5 l (.lst (acc ++ [y])))) else Nx xs.length i (Pv (i + 1) acc σ3 H4))
    (hd : ∀ acc σ H, Pv xs.length acc σ H → Q (.ref l) H) : ∃ W : Nat → Nat → List V → St → Hp → Prop, (∃ m, W 0 m [] σ H) ∧ LCW (Itt K a) g tt te l Q W := by
  refine ⟨fun i m acc σ H => m = xs.length - i ∧ i ≤ xs.length ∧ Pv i acc σ H, ⟨_, rfl, Nat.zero_le _, h0⟩, ?_⟩
  rintro i m acc σ H ⟨rfl, hi, p⟩
  obtain ⟨q0, q1⟩ := hl i acc σ H p
  refine ⟨q0, ?_⟩
  by_cases hlt : i < xs.length
  · refine .inr ⟨⟨xs, xs[i], q1, List.getElem?_eq_getElem hlt⟩, fun x H2 ⟨e, y⟩ => ?_⟩
    subst e
    exact hs i x acc σ _ (y xs q1) p
  · obtain rfl : i = xs.length := by lia
    exact .inl ⟨⟨xs, q1, Nat.le_refl _⟩, hd acc σ H p⟩
section
variable {prog : Program} {w : World} {A : Around} {E : Value → Shared → Prop} {s : Shared}
end
section
variable {X : Cx}
end
section
variable {X : Cx}
end
end L2
end
section
set_option maxHeartbeats 4000001
namespace K20
open PySem L2 Own Bn
abbrev sEnd : Stmt := top 12
abbrev sGiven : Stmt := top 23
abbrev sAdded : Stmt := top 24
abbrev sParted : Stmt := top 21
abbrev sStepped : Stmt := top 20
abbrev sJoined : Stmt := top 22
def spGiven : Sp := fun vs H Q _ => ∃ a xs, ∃ (place : Nat) (v : Int), vs = [.ref a, .int place, .int v] ∧ H a = some (.tup (List.map V.int xs)) ∧ place < xs.length ∧ xs.length ≤ 1000 ∧ ∀ p H', Same H H' → H' p = some (.tup ((xs.set place v).map V.int)) → Q (.ref p) H'
def spAdded : Sp := fun vs H Q _ => ∃ a xs, ∃ (place : Nat) (v : Int), vs = [.ref a, .int place, .int v] ∧ H a = some (.tup (List.map V.int xs)) ∧ place < xs.length ∧ xs.length ≤ 1000 ∧ ∀ p H', Same H H' → H' p = some (.tup ((xs.set place (xs.getD place 0 + v)).map V.int)) → Q (.ref p) H'
def spParted : Sp := fun vs H Q _ => ∃ r fr er ps N, ∃ (t m : Int) (n : Nat), vs = [.ref r, .int t, .int m, .int n] ∧ Nt.Ok N ∧ NetAt H r fr er ps N ∧ n < N.forks.length ∧ ∀ p qs gs H', Parts N.forks t m n gs → Same H H' → H' p = some (.tup qs) → Grs H' qs gs → Q (.ref p) H'
def spStepped : Sp := fun vs H Q _ => ∃ r fr er ps N sc tr gr ou qs ts gs os, ∃ place : Nat, vs = [.ref r, .ref sc, .int place] ∧ Nt.Ok N ∧ NetAt H r fr er ps N ∧ SceneAt H sc tr gr ou qs ts gs os ∧ place < gs.length ∧ gs.length ≤ 900 ∧ ts.length = N.forks.length ∧ os.length = N.lanes ∧ (∀ g ∈ gs, g.lane < N.lanes ∧ g.fork ≤ N.forks.length) ∧
  ∀ sc' tr' gr' ou' qs' ts' gs' os' H', StepTo N place ts gs os ts' gs' os' → Same H H' → SceneAt H' sc' tr' gr' ou' qs' ts' gs' os' → Q (.ref sc') H'
def spJoined : Sp := fun vs H Q _ => ∃ sc tr gr ou qs ts gs os, ∃ (first second : Nat), vs = [.ref sc, .int first, .int second] ∧ SceneAt H sc tr gr ou qs ts gs os ∧ first < second ∧ second < gs.length ∧ gs.length ≤ 900 ∧ (∀ g h, gs[first]? = some g → gs[second]? = some h → g.lane = h.lane ∧ g.fork = h.fork) ∧
  ∀ sc' gr' qs' gs' H', JoinTo first second gs gs' → Same H H' → SceneAt H' sc' tr gr' ou qs' ts gs' os → Q (.ref sc') H'
section
variable {P : Program} {w : World} {K : PySem.W.Frag} {mg : Str → Option Value} {base : Heap}
theorem scEn : FnScope ["net", "lane"] ["net", "lane"] (defScope sEnd) := ⟨rfl, rfl, rfl, by decide +kernel, rfl, by decide +kernel, by decide +kernel⟩
theorem ok_end {f : Addr} {fd : FuncData} (F : Fun K "end_of" "end_of" sEnd f fd) : FnOk P w K mg base CX0 1 f fd ["net", "lane"] spEnd := by
  refine F.ok scEn (fun vs H Q E h => ?_) (fun cdv A outer s H vs Q E hr h => ?_)
  · obtain ⟨r, fr, er, ps, N, lane, rfl, _⟩ := h
    rfl
  obtain ⟨r, fr, er, ps, N, lane, rfl, ok, na, hl, k⟩ := h
  refine ⟨_, (@pss_one _ _ _ (@ps_ret _ _ _ _ (@pe_tidx _ _ _ _ _ _ _ hr.units (@pe_ix _ _ _ _ _ _ _ ix_tup (@pv _ 0 _ _ (by rfl) (by first | exact Or.inl rfl | exact Or.inr (Or.inl rfl) | exact Or.inr (Or.inr rfl)) (by decide) (by decide)) pe_int (fun _ _ => rfl)) (@pa_cons _ _ _ _ _ (@pv _ 1 _ _ (by rfl) (by first | exact Or.inl rfl | exact Or.inr (Or.inl rfl) | exact Or.inr (Or.inr rfl)) (by decide) (by decide)) pa_nil (by rfl)) (by rfl) (by rfl) (by rfl) (by rfl)))), ?_⟩
  have he := na.ends
  rw [nums_map] at he
  refine ⟨_, rfl, r, _, _, _, rfl, rfl, SqT.of na.net, rfl, er, _, rfl, he, _, rfl, (lane : Int), rfl, he, ?_, ?_⟩
  · exact List.mem_map.mpr ⟨lane, ok.en.mem_iff.mpr (List.mem_range.mpr hl), rfl⟩
  · rw [idx_cast]; exact k
theorem scGi : FnScope ["row", "place", "value"] ["row", "place", "value"] (defScope sGiven) := ⟨rfl, rfl, rfl, by decide +kernel, rfl, by decide +kernel, by decide +kernel⟩
theorem ok_given {f : Addr} {fd : FuncData} (F : Fun K "given_at" "given_at" sGiven f fd) (G : Mgs mg) : FnOk P w K mg base CX0 1 f fd ["row", "place", "value"] spGiven := by
  refine F.ok scGi (fun vs H Q E h => ?_) (fun cdv A outer s H vs Q E hr h => ?_)
  · obtain ⟨a, xs, place, v, rfl, _⟩ := h
    rfl
  obtain ⟨a, xs, place, v, rfl, ha, pl, xl, k⟩ := h
  refine ⟨_, (@pss_one _ _ _ (@ps_ret _ _ _ _ (@pe_op _ _ _ _ _ _ _ _ op_catH (@pe_op _ _ _ _ _ _ _ _ op_catH (@pe_slice _ _ _ _ _ _ _ _ _ _ sl_tupH (@pv _ 0 _ _ (by rfl) (by first | exact Or.inl rfl | exact Or.inr (Or.inl rfl) | exact Or.inr (Or.inr rfl)) (by decide) (by decide)) po_none (@po_some _ _ _ (@pv _ 1 _ _ (by rfl) (by first | exact Or.inl rfl | exact Or.inr (Or.inl rfl) | exact Or.inr (Or.inr rfl)) (by decide) (by decide)))) (@pe_tup _ _ _ _ _ (@pa_cons _ _ _ _ _ (@pv _ 2 _ _ (by rfl) (by first | exact Or.inl rfl | exact Or.inr (Or.inl rfl) | exact Or.inr (Or.inr rfl)) (by decide) (by decide)) pa_nil (by rfl)))) (@pe_slice _ _ _ _ _ _ _ _ _ _ sl_tupH (@pv _ 0 _ _ (by rfl) (by first | exact Or.inl rfl | exact Or.inr (Or.inl rfl) | exact Or.inr (Or.inr rfl)) (by decide) (by decide)) (@po_some _ _ _ (@pe_op _ _ _ _ _ _ _ _ op_add (@pv _ 1 _ _ (by rfl) (by first | exact Or.inl rfl | exact Or.inr (Or.inl rfl) | exact Or.inr (Or.inr rfl)) (by decide) (by decide)) pe_int)) po_none)))), ?_⟩
  have ml : (xs.map V.int).length = xs.length := List.length_map _
  refine ⟨_, rfl, _, rfl, _, rfl, a, _, rfl, ha, fun p1 H1 s1 h1 => ?_⟩
  rw [cut_upto _ place (by lia)] at h1
  refine ⟨_, rfl, (by show 1 ≤ sizeLine; decide), fun p2 hp2 => ?_⟩
  have s2 := same_new hp2 (.tup [.int v])
  refine ⟨p1, p2, _, _, rfl, rfl, s2 _ _ h1, upd_same, ?_, fun p3 H3 s3 h3 => ?_⟩
  · rw [List.length_take, sizeLine_eq]; show _ + 1 ≤ _; lia
  have u3 := (s1.trans s2).trans s3
  refine ⟨_, rfl, _, rfl, _, _, rfl, rfl, _, rfl, a, _, rfl, u3 _ _ ha, fun p4 H4 s4 h4 => ?_⟩
  rw [show ((place : Int) + 1) = ((place + 1 : Nat) : Int) from rfl, cut_from _ (place + 1) (by lia)] at h4
  refine ⟨p3, p4, _, _, rfl, rfl, s4 _ _ h3, h4, ?_, fun p5 H5 s5 h5 => ?_⟩
  · rw [List.length_append, List.length_take, List.length_drop, sizeLine_eq]; show _ + 1 + _ ≤ _; lia
  exact k p5 H5 ((u3.trans s4).trans s5) (by rw [h5, set_cut xs place v pl])
theorem scAd : FnScope ["counts", "place", "many"] ["counts", "place", "many"] (defScope sAdded) := ⟨rfl, rfl, rfl, by decide +kernel, rfl, by decide +kernel, by decide +kernel⟩
theorem ok_added {f fG : Addr} {fd dG : FuncData} (F : Fun K "added" "added" sAdded f fd) (G : Mgs mg) (UG : Use P w K mg base "given_at" ["row", "place", "value"] 1 spGiven fG dG) : FnOk P w K mg base CX0 2 f fd ["counts", "place", "many"] spAdded := by
  refine F.ok scAd (fun vs H Q E h => ?_) (fun cdv A outer s H vs Q E hr h => ?_)
  · obtain ⟨a, xs, place, v, rfl, _⟩ := h
    rfl
  obtain ⟨a, xs, place, v, rfl, ha, pl, xl, k⟩ := h
  refine ⟨_, (@pss_one _ _ _ (@ps_ret _ _ _ _ (@pe_call _ _ _ _ _ _ _ _ _ _ _ _ _ _ _ _ UG.ok hr (by rfl) UG.m UG.kp UG.b .nil pass0 (@pa_cons _ _ _ _ _ (@pv _ 0 _ _ (by rfl) (by first | exact Or.inl rfl | exact Or.inr (Or.inl rfl) | exact Or.inr (Or.inr rfl)) (by decide) (by decide)) (@pa_cons _ _ _ _ _ (@pv _ 1 _ _ (by rfl) (by first | exact Or.inl rfl | exact Or.inr (Or.inl rfl) | exact Or.inr (Or.inr rfl)) (by decide) (by decide)) (@pa_cons _ _ _ _ _ (@pe_op _ _ _ _ _ _ _ _ op_add (@pe_ix _ _ _ _ _ _ _ ix_tup (@pv _ 0 _ _ (by rfl) (by first | exact Or.inl rfl | exact Or.inr (Or.inl rfl) | exact Or.inr (Or.inr rfl)) (by decide) (by decide)) (@pv _ 1 _ _ (by rfl) (by first | exact Or.inl rfl | exact Or.inr (Or.inl rfl) | exact Or.inr (Or.inr rfl)) (by decide) (by decide)) (fun _ _ => rfl)) (@pv _ 2 _ _ (by rfl) (by first | exact Or.inl rfl | exact Or.inr (Or.inl rfl) | exact Or.inr (Or.inr rfl)) (by decide) (by decide))) pa_nil (by rfl)) (by rfl)) (by rfl)) (by decide) (by rfl) (by rfl)))), ?_⟩
  exact ⟨_, rfl, _, rfl, _, rfl, _, rfl, a, _, _, _, rfl, rfl, SqT.of ha, at_int pl, _, rfl, _, _, rfl, rfl, a, xs, place, _, rfl, ha, pl, xl, k⟩
theorem scPa : FnScope ["net", "turn", "many", "number", "one", "other", "on_one", "parts"] ["net", "turn", "many", "number"] (defScope sParted) := ⟨rfl, rfl, rfl, by decide +kernel, rfl, by decide +kernel, by decide +kernel⟩
theorem ok_parted {f fN : Addr} {fd dN : FuncData} (F : Fun K "parted" "parted" sParted f fd) (G : Mgs mg) (UN : Use P w K mg base "next_fork" ["net", "lane", "number"] 1 spNext fN dN) : FnOk P w K mg base CX0 2 f fd ["net", "turn", "many", "number"] spParted := by
  refine F.ok scPa (fun vs H Q E h => ?_) (fun cdv A outer s H vs Q E hr h => ?_)
  · obtain ⟨r, fr, er, ps, N, t, m, n, rfl, _⟩ := h
    rfl
  obtain ⟨r, fr, er, ps, N, t, m, n, rfl, ok, na, nl, k⟩ := h
  refine ⟨_, (@pss_cons _ _ _ _ _ (@ps_asg _ _ _ _ _ _ (@pe_ix _ _ _ _ _ _ _ ix_tup (@pe_ix _ _ _ _ _ _ _ ix_tup (@pv _ 0 _ _ (by rfl) (by first | exact Or.inl rfl | exact Or.inr (Or.inl rfl) | exact Or.inr (Or.inr rfl)) (by decide) (by decide)) pe_int (fun _ _ => rfl)) (@pv _ 3 _ _ (by rfl) (by first | exact Or.inl rfl | exact Or.inr (Or.inl rfl) | exact Or.inr (Or.inr rfl)) (by decide) (by decide)) (fun _ _ => rfl)) (@pg_tup _ _ _ _ _ _ rfl (@pgs_cons _ _ _ _ _ (@pg_name _ _ 4 _ scPa.nd rfl (Or.inl rfl) (by first | exact .inl rfl | exact .inr rfl | assumption)) (@pgs_cons _ _ _ _ _ (@pg_name _ _ 5 _ scPa.nd rfl (Or.inl rfl) (by first | exact .inl rfl | exact .inr rfl | assumption)) pgs_nil (by rfl)) (by rfl)) (by rfl) (by rfl)) (by rfl) (by rfl) (by rfl)) (@pss_cons _ _ _ _ _ (@ps_set _ _ 6 _ _ _ _ scPa.nd rfl (Or.inl rfl) (@pe_op _ _ _ _ _ _ _ _ op_sub (@pe_op _ _ _ _ _ _ _ _ op_fdiv (@pe_op _ _ _ _ _ _ _ _ op_add (@pe_op _ _ _ _ _ _ _ _ op_add (@pv _ 1 _ _ (by rfl) (by first | exact Or.inl rfl | exact Or.inr (Or.inl rfl) | exact Or.inr (Or.inr rfl)) (by decide) (by decide)) (@pv _ 2 _ _ (by rfl) (by first | exact Or.inl rfl | exact Or.inr (Or.inl rfl) | exact Or.inr (Or.inr rfl)) (by decide) (by decide))) pe_int) pe_int) (@pv _ 1 _ _ (by rfl) (by first | exact Or.inl rfl | exact Or.inr (Or.inl rfl) | exact Or.inr (Or.inr rfl)) (by decide) (by decide))) (by rfl) (by first | exact .inl rfl | exact .inr rfl | assumption)) (@pss_cons _ _ _ _ _ (@ps_set _ _ 7 _ _ _ _ scPa.nd rfl (Or.inl rfl) (@pe_tup _ _ _ _ _ (@pa_cons _ _ _ _ _ (@pe_tup _ _ _ _ _ (@pa_cons _ _ _ _ _ (@pv _ 6 _ _ (by rfl) (by first | exact Or.inl rfl | exact Or.inr (Or.inl rfl) | exact Or.inr (Or.inr rfl)) (by decide) (by decide)) (@pa_cons _ _ _ _ _ (@pv _ 4 _ _ (by rfl) (by first | exact Or.inl rfl | exact Or.inr (Or.inl rfl) | exact Or.inr (Or.inr rfl)) (by decide) (by decide)) pa_nil (by rfl)) (by rfl))) (@pa_cons _ _ _ _ _ (@pe_tup _ _ _ _ _ (@pa_cons _ _ _ _ _ (@pe_op _ _ _ _ _ _ _ _ op_sub (@pv _ 2 _ _ (by rfl) (by first | exact Or.inl rfl | exact Or.inr (Or.inl rfl) | exact Or.inr (Or.inr rfl)) (by decide) (by decide)) (@pv _ 6 _ _ (by rfl) (by first | exact Or.inl rfl | exact Or.inr (Or.inl rfl) | exact Or.inr (Or.inr rfl)) (by decide) (by decide))) (@pa_cons _ _ _ _ _ (@pv _ 5 _ _ (by rfl) (by first | exact Or.inl rfl | exact Or.inr (Or.inl rfl) | exact Or.inr (Or.inr rfl)) (by decide) (by decide)) pa_nil (by rfl)) (by rfl))) pa_nil (by rfl)) (by rfl))) (by rfl) (by first | exact .inl rfl | exact .inr rfl | assumption)) (@pss_one _ _ _ (@ps_ret _ _ _ _ (@pe_callTy _ _ _ _ _ _ _ _ _ call_tuple_of (by rfl) G.tuple (by rfl) (@pa_cons _ _ _ _ _ (@pe_lc _ _ _ _ (some _) _ _ _ (gTup K 2 (gCons (gName 0) (gCons (gName 1) gNil))) _ _ ["part", "lane", "net", "number"] [none, none, some 0, some 3] rfl (@pi_tup _ _ _ _ (@pv _ 7 _ _ (by rfl) (by first | exact Or.inl rfl | exact Or.inr (Or.inl rfl) | exact Or.inr (Or.inr rfl)) (by decide) (by decide))) (CapOk.of (by kernel_rfl)) (fun _ _ _ _ _ => (@pg_tup _ _ _ _ _ _ rfl (@pgs_cons _ _ _ _ _ (@pg_name _ _ 0 _ (show (["part", "lane", "net", "number"] : List Str).Nodup from by decide +kernel) rfl (Or.inl rfl) (Or.inr rfl)) (@pgs_cons _ _ _ _ _ (@pg_name _ _ 1 _ (show (["part", "lane", "net", "number"] : List Str).Nodup from by decide +kernel) rfl (Or.inl rfl) (Or.inr rfl)) pgs_nil (by rfl)) (by rfl)) (by rfl) (by rfl))) (fun _ _ _ _ _ => (@pt_some _ _ _ (@pt_cmpR _ _ _ _ _ _ _ _ op_ne (@pv _ 0 _ _ (by rfl) (by first | exact Or.inl rfl | exact Or.inr (Or.inl rfl) | exact Or.inr (Or.inr rfl)) (by decide) (by decide)) pe_int (nomark _)))) (fun _ _ _ _ _ => (@pe_tup _ _ _ _ _ (@pa_cons _ _ _ _ _ (@pv _ 0 _ _ (by rfl) (by first | exact Or.inl rfl | exact Or.inr (Or.inl rfl) | exact Or.inr (Or.inr rfl)) (by decide) (by decide)) (@pa_cons _ _ _ _ _ (@pv _ 1 _ _ (by rfl) (by first | exact Or.inl rfl | exact Or.inr (Or.inl rfl) | exact Or.inr (Or.inr rfl)) (by decide) (by decide)) (@pa_cons _ _ _ _ _ (@pe_call _ _ _ _ _ _ _ _ _ _ _ _ _ _ _ _ UN.ok hr (by rfl) UN.m UN.kp UN.b .nil pass0 (@pa_cons _ _ _ _ _ (@pv _ 2 _ _ (by rfl) (by first | exact Or.inl rfl | exact Or.inr (Or.inl rfl) | exact Or.inr (Or.inr rfl)) (by decide) (by decide)) (@pa_cons _ _ _ _ _ (@pv _ 1 _ _ (by rfl) (by first | exact Or.inl rfl | exact Or.inr (Or.inl rfl) | exact Or.inr (Or.inr rfl)) (by decide) (by decide)) (@pa_cons _ _ _ _ _ (@pe_op _ _ _ _ _ _ _ _ op_add (@pv _ 3 _ _ (by rfl) (by first | exact Or.inl rfl | exact Or.inr (Or.inl rfl) | exact Or.inr (Or.inr rfl)) (by decide) (by decide)) pe_int) pa_nil (by rfl)) (by rfl)) (by rfl)) (by decide) (by rfl) (by rfl)) pa_nil (by rfl)) (by rfl)) (by rfl)))) (by intro _; rfl)) pa_nil (by rfl)) (by decide) (by decide) (by rfl) (by rfl))))))), ?_⟩
  have pl := na.prs.len
  have nl' : n < ps.length := by lia
  obtain ⟨fa, g, efa, eg, hga⟩ := na.prs.get (List.getElem?_eq_getElem nl')
  have eat : atI ps ((n : Nat) : Int) = some (.ref fa) := atI_nat (by rw [List.getElem?_eq_getElem nl', efa])
  refine ⟨_, rfl, r, _, _, _, rfl, rfl, SqT.of na.net, rfl, _, rfl, fr, _, _, _, rfl, rfl, SqT.of na.forks, eat, fa, _, rfl, SqT.of hga, rfl, _, _, rfl, _, _, rfl, rfl, ?_⟩
  refine ⟨_, rfl, _, rfl, _, _, rfl, rfl, _, _, rfl, rfl, _, _, rfl, rfl, ⟨by decide, by decide⟩, _, rfl, _, _, rfl, rfl, ?_⟩
  dsimp only
  generalize hoo : ((t + m + 1) / 2 - t) = oo
  refine ⟨_, rfl, _, rfl, (by show 2 ≤ sizeLine; decide), fun t1 h1 => ?_⟩
  have s1 := same_new h1 (.tup [.int oo, .int g.1])
  refine ⟨_, rfl, _, rfl, _, _, rfl, rfl, _, rfl, (by show 2 ≤ sizeLine; decide), fun t2 h2 => ?_⟩
  have s2 := same_new h2 (.tup [.int (m - oo), .int g.2])
  refine ⟨(by show 2 ≤ sizeLine; decide), fun t3 h3 => ?_⟩
  have s3 := same_new h3 (.tup [.ref t1, .ref t2])
  have s13 := (s1.trans s2).trans s3
  have e1 := (s2.trans s3) _ _ (show L2.upd H t1 (.tup [.int oo, .int g.1]) t1 = _ from upd_same)
  have e2 := s3 _ _ (show L2.upd (L2.upd H t1 (.tup [.int oo, .int g.1])) t2 (.tup [.int (m - oo), .int g.2]) t2 = _ from upd_same)
  have e3 : L2.upd (L2.upd (L2.upd H t1 (.tup [.int oo, .int g.1])) t2 (.tup [.int (m - oo), .int g.2])) t3 (.tup [.ref t1, .ref t2]) t3 = some (.tup [.ref t1, .ref t2]) := upd_same
  have na3 := na.tups (Tups.of s13)
  dsimp only
  generalize L2.upd (L2.upd (L2.upd H t1 (.tup [.int oo, .int g.1])) t2 (.tup [.int (m - oo), .int g.2])) t3 (.tup [.ref t1, .ref t2]) = H3 at *
  refine ⟨_, rfl, t3, rfl, ⟨_, SqT.of e3⟩, fun lq hlq => ?_⟩
  refine lc_tupT (K := K) (a := t3) (xs := [.ref t1, .ref t2]) (fun i acc σ H4 => (∃ v0 v1, σ = [v0, v1, some (.ref r), some (.int n)]) ∧ Same H3 H4 ∧ H4 lq = some (.lst acc) ∧ ∃ k1 k2, (1 ≤ i → IsNext N.forks g.1 (n + 1) k1) ∧ (2 ≤ i → IsNext N.forks g.2 (n + 1) k2) ∧ ∃ gs, Grs H4 acc gs ∧ acc.length ≤ i ∧ gs = (if 1 ≤ i then part oo g.1 k1 else []) ++ (if 2 ≤ i then part (m - oo) g.2 k2 else [])) ⟨⟨_, _, rfl⟩, same_new hlq _, upd_same, 0, 0, fun h => absurd h (by decide), fun h => absurd h (by decide), [], trivial, Nat.le_refl _, rfl⟩ (fun i acc σ H4 q => ⟨q.2.2.1, SqT.of (q.2.1 _ _ e3)⟩) ?_ ?_
  · rintro i x acc σ H4 hx ⟨⟨v0, v1, rfl⟩, s4, h4, k1, k2, n1, n2, gs, gr, al, egs⟩
    have il : i < 2 := by have := (List.getElem?_eq_some_iff.mp hx).1; simpa using this
    obtain ⟨ta, mm, lane, rfl, hta, hlane⟩ : ∃ (ta : Addr) (mm : Int) (lane : Nat), x = .ref ta ∧ H4 ta = some (.tup [.int mm, .int lane]) ∧ ((i = 0 ∧ mm = oo ∧ lane = g.1) ∨ (i = 1 ∧ mm = m - oo ∧ lane = g.2)) := by
      rcases i with _ | _ | i
      · obtain rfl := Option.some.inj hx
        exact ⟨t1, oo, g.1, rfl, s4 _ _ e1, .inl ⟨rfl, rfl, rfl⟩⟩
      · obtain rfl := Option.some.inj hx
        exact ⟨t2, m - oo, g.2, rfl, s4 _ _ e2, .inr ⟨rfl, rfl, rfl⟩⟩
      · lia
    have put : ∀ (kk : Nat) (H5 : Hp) (acc' : List V), IsNext N.forks lane (n + 1) kk → acc'.length ≤ i + 1 → (∃ gs', Grs H5 acc' gs' ∧ gs' = gs ++ part mm lane kk) → ∃ k1 k2, (1 ≤ i + 1 → IsNext N.forks g.1 (n + 1) k1) ∧ (2 ≤ i + 1 → IsNext N.forks g.2 (n + 1) k2) ∧ ∃ gs, Grs H5 acc' gs ∧ acc'.length ≤ i + 1 ∧ gs = (if 1 ≤ i + 1 then part oo g.1 k1 else []) ++ (if 2 ≤ i + 1 then part (m - oo) g.2 k2 else []) := by
      rintro kk H5 acc' hk al' ⟨gs', gr', rfl⟩
      rcases hlane with ⟨rfl, rfl, rfl⟩ | ⟨rfl, rfl, rfl⟩
      · refine ⟨kk, 0, fun _ => hk, fun h => absurd h (by decide), _, gr', al', ?_⟩
        rw [egs]; simp
      · refine ⟨k1, kk, fun _ => n1 (by decide), fun _ => hk, _, gr', al', ?_⟩
        rw [egs]; simp
    refine ⟨ta, _, rfl, SqT.of hta, rfl, _, _, rfl, _, _, rfl, rfl, ?_⟩
    refine ⟨_, rfl, rfl, _, rfl, ?_⟩
    obtain ⟨kk, hk⟩ := next_ex N.forks lane (n + 1) (by lia)
    by_cases z : mm = 0
    · rw [show (!decide (V.int mm = V.int 0)) = false from by rw [decide_eq_true (by rw [z])]; rfl]
      exact iteF (nx (by show i < 2; exact il) ⟨⟨_, _, rfl⟩, s4, h4, put kk H4 acc hk (by lia) ⟨gs, gr, by unfold part; rw [if_pos z, List.append_nil]⟩⟩)
    · rw [show (!decide (V.int mm = V.int 0)) = true from by rw [decide_eq_false (fun y => z (V.int.inj y))]; rfl]
      refine iteT ⟨_, rfl, _, rfl, _, rfl, _, rfl, _, rfl, _, _, rfl, rfl, r, fr, er, ps, N, lane, n + 1, rfl, ok, na3.tups (Tups.of s4), by lia, fun k' hk' => ?_⟩
      refine ⟨(by show 3 ≤ sizeLine; decide), fun t5 h5 => ?_⟩
      have s5 := same_new h5 (.tup [.int mm, .int lane, .int k'])
      have h5' := s5 _ _ h4
      refine ⟨h5', Nat.lt_of_lt_of_le (show acc.length < 1000 by lia) (by decide), nx (by show i < 2; exact il) ⟨⟨_, _, rfl⟩, fun b o e => ?_, upd_same, put k' _ _ hk' (by rw [List.length_append]; show _ + 1 ≤ _; lia) ⟨gs ++ [⟨mm, lane, k'⟩], ?_, by unfold part; rw [if_neg z]⟩⟩⟩
      · rw [upd_ne (ne_of_none e hlq)]; exact s5 _ _ (s4 b o e)
      · exact (((gr.tups (Tups.of s5)).app (Grs.one (g := ⟨mm, lane, k'⟩) upd_same)).tups (Tups.lst h5'))
  · rintro acc σ H4 ⟨⟨v0, v1, rfl⟩, s4, h4, k1, k2, n1, n2, gs, gr, al, egs⟩
    refine ⟨lq, _, rfl, .inl ⟨SqL.of h4, fun p hp => ?_⟩⟩
    have s5 := same_new hp (.tup acc)
    refine k p acc gs _ ⟨g, k1, k2, eg, n1 (by show 1 ≤ 2; decide), n2 (by show 2 ≤ 2; decide), ?_⟩ ((s13.trans s4).trans s5) upd_same (gr.tups (Tups.of s5))
    rw [egs, hoo]; simp
theorem scSt : FnScope ["net", "scene", "place", "turns", "groups", "out", "many", "lane", "number", "left", "parts", "turn"] ["net", "scene", "place"] (defScope sStepped) := ⟨rfl, rfl, rfl, by decide +kernel, rfl, by decide +kernel, by decide +kernel⟩
theorem ok_stepped {f fA fE fP fG : Addr} {fd dA dE dP dG : FuncData} (F : Fun K "stepped" "stepped" sStepped f fd) (G : Mgs mg) (UA : Use P w K mg base "added" ["counts", "place", "many"] 2 spAdded fA dA) (UE : Use P w K mg base "end_of" ["net", "lane"] 1 spEnd fE dE) (UP : Use P w K mg base "parted" ["net", "turn", "many", "number"] 2 spParted fP dP) (UG : Use P w K mg base "given_at" ["row", "place", "value"] 1 spGiven fG dG) : FnOk P w K mg base CX0 3 f fd ["net", "scene", "place"] spStepped := by
  refine F.ok scSt (fun vs H Q E h => ?_) (fun cdv A outer s H vs Q E hr h => ?_)
  · obtain ⟨r, fr, er, ps, N, sc, tr, gr, ou, qs, ts, gs, os, place, rfl, _⟩ := h
    rfl
  obtain ⟨r, fr, er, ps, N, sc, tr, gr, ou, qs, ts, gs, os, place, rfl, ok, na, sa, pl, gl, tl, ol, gok, k⟩ := h
  have hr1 : Room 1 _ := hr.mono (by decide)
  refine ⟨_, (@pss_cons _ _ _ _ _ (@ps_asg _ _ _ _ _ _ (@pv _ 1 _ _ (by rfl) (by first | exact Or.inl rfl | exact Or.inr (Or.inl rfl) | exact Or.inr (Or.inr rfl)) (by decide) (by decide)) (@pg_tup _ _ _ _ _ _ rfl (@pgs_cons _ _ _ _ _ (@pg_name _ _ 3 _ scSt.nd rfl (Or.inl rfl) (by first | exact .inl rfl | exact .inr rfl | assumption)) (@pgs_cons _ _ _ _ _ (@pg_name _ _ 4 _ scSt.nd rfl (Or.inl rfl) (by first | exact .inl rfl | exact .inr rfl | assumption)) (@pgs_cons _ _ _ _ _ (@pg_name _ _ 5 _ scSt.nd rfl (Or.inl rfl) (by first | exact .inl rfl | exact .inr rfl | assumption)) pgs_nil (by rfl)) (by rfl)) (by rfl)) (by rfl) (by rfl)) (by rfl) (by rfl) (by rfl)) (@pss_cons _ _ _ _ _ (@ps_if _ _ _ _ _ _ _ _ (@pt_cmpR _ _ _ _ _ _ _ _ op_ge (@pv _ 2 _ _ (by rfl) (by first | exact Or.inl rfl | exact Or.inr (Or.inl rfl) | exact Or.inr (Or.inr rfl)) (by decide) (by decide)) (@pe_callB _ _ _ _ _ _ _ _ _ call_len_seq (by rfl) G.len PySem.boot_len (@pa_cons _ _ _ _ _ (@pv _ 4 _ _ (by rfl) (by first | exact Or.inl rfl | exact Or.inr (Or.inl rfl) | exact Or.inr (Or.inr rfl)) (by decide) (by decide)) pa_nil (by rfl)) (by decide) (by decide) (by rfl) (by rfl)) (nomark _)) (@pss_one _ _ _ ps_dead) pss_nil) (@pss_cons _ _ _ _ _ (@ps_asg _ _ _ _ _ _ (@pe_ix _ _ _ _ _ _ _ ix_tup (@pv _ 4 _ _ (by rfl) (by first | exact Or.inl rfl | exact Or.inr (Or.inl rfl) | exact Or.inr (Or.inr rfl)) (by decide) (by decide)) (@pv _ 2 _ _ (by rfl) (by first | exact Or.inl rfl | exact Or.inr (Or.inl rfl) | exact Or.inr (Or.inr rfl)) (by decide) (by decide)) (fun _ _ => rfl)) (@pg_tup _ _ _ _ _ _ rfl (@pgs_cons _ _ _ _ _ (@pg_name _ _ 6 _ scSt.nd rfl (Or.inl rfl) (by first | exact .inl rfl | exact .inr rfl | assumption)) (@pgs_cons _ _ _ _ _ (@pg_name _ _ 7 _ scSt.nd rfl (Or.inl rfl) (by first | exact .inl rfl | exact .inr rfl | assumption)) (@pgs_cons _ _ _ _ _ (@pg_name _ _ 8 _ scSt.nd rfl (Or.inl rfl) (by first | exact .inl rfl | exact .inr rfl | assumption)) pgs_nil (by rfl)) (by rfl)) (by rfl)) (by rfl) (by rfl)) (by rfl) (by rfl) (by rfl)) (@pss_cons _ _ _ _ _ (@ps_if _ _ _ _ _ _ _ _ (@pt_cmpR _ _ _ _ _ _ _ _ op_eq (@pv _ 8 _ _ (by rfl) (by first | exact Or.inl rfl | exact Or.inr (Or.inl rfl) | exact Or.inr (Or.inr rfl)) (by decide) (by decide)) (@pe_callB _ _ _ _ _ _ _ _ _ call_len_seq (by rfl) G.len PySem.boot_len (@pa_cons _ _ _ _ _ (@pe_ix _ _ _ _ _ _ _ ix_tup (@pv _ 0 _ _ (by rfl) (by first | exact Or.inl rfl | exact Or.inr (Or.inl rfl) | exact Or.inr (Or.inr rfl)) (by decide) (by decide)) pe_int (fun _ _ => rfl)) pa_nil (by rfl)) (by decide) (by decide) (by rfl) (by rfl)) (nomark _)) (@pss_cons _ _ _ _ _ (@ps_set _ _ 9 _ _ _ _ scSt.nd rfl (Or.inl rfl) (@pe_op _ _ _ _ _ _ _ _ op_catH (@pe_slice _ _ _ _ _ _ _ _ _ _ sl_tupH (@pv _ 4 _ _ (by rfl) (by first | exact Or.inl rfl | exact Or.inr (Or.inl rfl) | exact Or.inr (Or.inr rfl)) (by decide) (by decide)) po_none (@po_some _ _ _ (@pv _ 2 _ _ (by rfl) (by first | exact Or.inl rfl | exact Or.inr (Or.inl rfl) | exact Or.inr (Or.inr rfl)) (by decide) (by decide)))) (@pe_slice _ _ _ _ _ _ _ _ _ _ sl_tupH (@pv _ 4 _ _ (by rfl) (by first | exact Or.inl rfl | exact Or.inr (Or.inl rfl) | exact Or.inr (Or.inr rfl)) (by decide) (by decide)) (@po_some _ _ _ (@pe_op _ _ _ _ _ _ _ _ op_add (@pv _ 2 _ _ (by rfl) (by first | exact Or.inl rfl | exact Or.inr (Or.inl rfl) | exact Or.inr (Or.inr rfl)) (by decide) (by decide)) pe_int)) po_none)) (by rfl) (by first | exact .inl rfl | exact .inr rfl | assumption)) (@pss_one _ _ _ (@ps_ret _ _ _ _ (@pe_tup _ _ _ _ _ (@pa_cons _ _ _ _ _ (@pv _ 3 _ _ (by rfl) (by first | exact Or.inl rfl | exact Or.inr (Or.inl rfl) | exact Or.inr (Or.inr rfl)) (by decide) (by decide)) (@pa_cons _ _ _ _ _ (@pv _ 9 _ _ (by rfl) (by first | exact Or.inl rfl | exact Or.inr (Or.inl rfl) | exact Or.inr (Or.inr rfl)) (by decide) (by decide)) (@pa_cons _ _ _ _ _ (@pe_call _ _ _ _ _ _ _ _ _ _ _ _ _ _ _ _ UA.ok hr (by rfl) UA.m UA.kp UA.b .nil pass0 (@pa_cons _ _ _ _ _ (@pv _ 5 _ _ (by rfl) (by first | exact Or.inl rfl | exact Or.inr (Or.inl rfl) | exact Or.inr (Or.inr rfl)) (by decide) (by decide)) (@pa_cons _ _ _ _ _ (@pe_call _ _ _ _ _ _ _ _ _ _ _ _ _ _ _ _ UE.ok hr1 (by rfl) UE.m UE.kp UE.b .nil pass0 (@pa_cons _ _ _ _ _ (@pv _ 0 _ _ (by rfl) (by first | exact Or.inl rfl | exact Or.inr (Or.inl rfl) | exact Or.inr (Or.inr rfl)) (by decide) (by decide)) (@pa_cons _ _ _ _ _ (@pv _ 7 _ _ (by rfl) (by first | exact Or.inl rfl | exact Or.inr (Or.inl rfl) | exact Or.inr (Or.inr rfl)) (by decide) (by decide)) pa_nil (by rfl)) (by rfl)) (by decide) (by rfl) (by rfl)) (@pa_cons _ _ _ _ _ (@pv _ 6 _ _ (by rfl) (by first | exact Or.inl rfl | exact Or.inr (Or.inl rfl) | exact Or.inr (Or.inr rfl)) (by decide) (by decide)) pa_nil (by rfl)) (by rfl)) (by rfl)) (by decide) (by rfl) (by rfl)) pa_nil (by rfl)) (by rfl)) (by rfl)))))) pss_nil) (@pss_cons _ _ _ _ _ (@ps_set _ _ 10 _ _ _ _ scSt.nd rfl (Or.inl rfl) (@pe_call _ _ _ _ _ _ _ _ _ _ _ _ _ _ _ _ UP.ok hr (by rfl) UP.m UP.kp UP.b .nil pass0 (@pa_cons _ _ _ _ _ (@pv _ 0 _ _ (by rfl) (by first | exact Or.inl rfl | exact Or.inr (Or.inl rfl) | exact Or.inr (Or.inr rfl)) (by decide) (by decide)) (@pa_cons _ _ _ _ _ (@pe_ix _ _ _ _ _ _ _ ix_tup (@pv _ 3 _ _ (by rfl) (by first | exact Or.inl rfl | exact Or.inr (Or.inl rfl) | exact Or.inr (Or.inr rfl)) (by decide) (by decide)) (@pv _ 8 _ _ (by rfl) (by first | exact Or.inl rfl | exact Or.inr (Or.inl rfl) | exact Or.inr (Or.inr rfl)) (by decide) (by decide)) (fun _ _ => rfl)) (@pa_cons _ _ _ _ _ (@pv _ 6 _ _ (by rfl) (by first | exact Or.inl rfl | exact Or.inr (Or.inl rfl) | exact Or.inr (Or.inr rfl)) (by decide) (by decide)) (@pa_cons _ _ _ _ _ (@pv _ 8 _ _ (by rfl) (by first | exact Or.inl rfl | exact Or.inr (Or.inl rfl) | exact Or.inr (Or.inr rfl)) (by decide) (by decide)) pa_nil (by rfl)) (by rfl)) (by rfl)) (by rfl)) (by decide) (by rfl) (by rfl)) (by rfl) (by first | exact .inl rfl | exact .inr rfl | assumption)) (@pss_cons _ _ _ _ _ (@ps_set _ _ 11 _ _ _ _ scSt.nd rfl (Or.inl rfl) (@pe_op _ _ _ _ _ _ _ _ op_mod (@pe_op _ _ _ _ _ _ _ _ op_add (@pe_ix _ _ _ _ _ _ _ ix_tup (@pv _ 3 _ _ (by rfl) (by first | exact Or.inl rfl | exact Or.inr (Or.inl rfl) | exact Or.inr (Or.inr rfl)) (by decide) (by decide)) (@pv _ 8 _ _ (by rfl) (by first | exact Or.inl rfl | exact Or.inr (Or.inl rfl) | exact Or.inr (Or.inr rfl)) (by decide) (by decide)) (fun _ _ => rfl)) (@pv _ 6 _ _ (by rfl) (by first | exact Or.inl rfl | exact Or.inr (Or.inl rfl) | exact Or.inr (Or.inr rfl)) (by decide) (by decide))) pe_int) (by rfl) (by first | exact .inl rfl | exact .inr rfl | assumption)) (@pss_one _ _ _ (@ps_ret _ _ _ _ (@pe_tup _ _ _ _ _ (@pa_cons _ _ _ _ _ (@pe_call _ _ _ _ _ _ _ _ _ _ _ _ _ _ _ _ UG.ok hr1 (by rfl) UG.m UG.kp UG.b .nil pass0 (@pa_cons _ _ _ _ _ (@pv _ 3 _ _ (by rfl) (by first | exact Or.inl rfl | exact Or.inr (Or.inl rfl) | exact Or.inr (Or.inr rfl)) (by decide) (by decide)) (@pa_cons _ _ _ _ _ (@pv _ 8 _ _ (by rfl) (by first | exact Or.inl rfl | exact Or.inr (Or.inl rfl) | exact Or.inr (Or.inr rfl)) (by decide) (by decide)) (@pa_cons _ _ _ _ _ (@pv _ 11 _ _ (by rfl) (by first | exact Or.inl rfl | exact Or.inr (Or.inl rfl) | exact Or.inr (Or.inr rfl)) (by decide) (by decide)) pa_nil (by rfl)) (by rfl)) (by rfl)) (by decide) (by rfl) (by rfl)) (@pa_cons _ _ _ _ _ (@pe_op _ _ _ _ _ _ _ _ op_catH (@pe_op _ _ _ _ _ _ _ _ op_catH (@pe_slice _ _ _ _ _ _ _ _ _ _ sl_tupH (@pv _ 4 _ _ (by rfl) (by first | exact Or.inl rfl | exact Or.inr (Or.inl rfl) | exact Or.inr (Or.inr rfl)) (by decide) (by decide)) po_none (@po_some _ _ _ (@pv _ 2 _ _ (by rfl) (by first | exact Or.inl rfl | exact Or.inr (Or.inl rfl) | exact Or.inr (Or.inr rfl)) (by decide) (by decide)))) (@pv _ 10 _ _ (by rfl) (by first | exact Or.inl rfl | exact Or.inr (Or.inl rfl) | exact Or.inr (Or.inr rfl)) (by decide) (by decide))) (@pe_slice _ _ _ _ _ _ _ _ _ _ sl_tupH (@pv _ 4 _ _ (by rfl) (by first | exact Or.inl rfl | exact Or.inr (Or.inl rfl) | exact Or.inr (Or.inr rfl)) (by decide) (by decide)) (@po_some _ _ _ (@pe_op _ _ _ _ _ _ _ _ op_add (@pv _ 2 _ _ (by rfl) (by first | exact Or.inl rfl | exact Or.inr (Or.inl rfl) | exact Or.inr (Or.inr rfl)) (by decide) (by decide)) pe_int)) po_none)) (@pa_cons _ _ _ _ _ (@pv _ 5 _ _ (by rfl) (by first | exact Or.inl rfl | exact Or.inr (Or.inl rfl) | exact Or.inr (Or.inr rfl)) (by decide) (by decide)) pa_nil (by rfl)) (by rfl)) (by rfl))))))))))), ?_⟩
  have ql := sa.grs.len
  have fl := na.prs.len
  have fm := ok.fm
  have l16 := ok.l16
  have pl' : place < qs.length := by lia
  obtain ⟨ga, g, ega, eg, hga⟩ := sa.grs.get (List.getElem?_eq_getElem pl')
  have eat : atI qs ((place : Nat) : Int) = some (.ref ga) := atI_nat (by rw [List.getElem?_eq_getElem pl', ega])
  obtain ⟨gln, gfk⟩ := gok g (List.mem_of_getElem? eg)
  refine ⟨_, rfl, sc, _, rfl, SqT.of sa.sc, rfl, _, _, rfl, _, _, rfl, _, _, rfl, rfl, ?_⟩
  refine ⟨_, rfl, _, rfl, gr, _, rfl, .inr (SqT.of sa.gr), _, _, rfl, rfl, _, rfl, ?_⟩
  rw [decide_eq_false (show ¬ _ from by lia)]
  refine iteF ⟨_, rfl, _, rfl, gr, _, _, _, rfl, rfl, SqT.of sa.gr, eat, ga, _, rfl, SqT.of hga, rfl, _, _, rfl, _, _, rfl, _, _, rfl, rfl, ?_⟩
  refine ⟨_, rfl, _, rfl, r, _, _, _, rfl, rfl, SqT.of na.net, rfl, fr, _, rfl, .inr (SqT.of na.forks), rfl, _, rfl, ?_⟩
  by_cases z : g.fork = N.forks.length
  · rw [show decide (V.int (g.fork : Int) = V.int (ps.length : Int)) = true from decide_eq_true (by rw [fl, z])]
    refine iteT ⟨_, rfl, _, rfl, _, rfl, gr, _, rfl, sa.gr, fun p1 H1 s1 h1 => ?_⟩
    rw [cut_upto _ place (by lia)] at h1
    refine ⟨_, rfl, _, rfl, _, _, rfl, rfl, _, rfl, gr, _, rfl, s1 _ _ sa.gr, fun p2 H2 s2 h2 => ?_⟩
    rw [show ((place : Int) + 1) = ((place + 1 : Nat) : Int) from rfl, cut_from _ (place + 1) (by lia)] at h2
    refine ⟨p1, p2, _, _, rfl, rfl, s2 _ _ h1, h2, ?_, fun p3 H3 s3 h3 => ?_⟩
    · rw [List.length_take, List.length_drop, sizeLine_eq]; lia
    have u3 := (s1.trans s2).trans s3
    refine ⟨_, rfl, _, rfl, _, rfl, _, rfl, _, rfl, r, fr, er, ps, N, g.lane, rfl, ok, na.tups (Tups.of u3), gln, ?_⟩
    have il : N.ends.idxOf g.lane < os.length := by
      rw [ol, ← ends_len ok]
      exact List.idxOf_lt_length_of_mem (ok.en.mem_iff.mpr (List.mem_range.mpr gln))
    refine ⟨_, rfl, ou, os, _, _, rfl, u3 _ _ sa.ou, il, by lia, fun p4 H4 s4 h4 => ?_⟩
    refine ⟨(by show 3 ≤ sizeLine; decide), fun sc' h5 => ?_⟩
    have s5 := same_new h5 (.tup [.ref tr, .ref p3, .ref p4])
    have u5 := (u3.trans s4).trans s5
    have sa5 := sa.tups (Tups.of u5)
    exact k sc' tr p3 p4 _ ts _ _ _ ⟨g, eg, .inl ⟨z, rfl, rfl, rfl⟩⟩ u5 ⟨upd_same, sa5.tr, (s4.trans s5) _ _ h3, (sa5.grs.take place).app (sa5.grs.drop (place + 1)), s5 _ _ h4⟩
  · rw [show decide (V.int (g.fork : Int) = V.int (ps.length : Int)) = false from decide_eq_false (by intro y; have := V.int.inj y; lia)]
    have gf : g.fork < N.forks.length := by lia
    refine iteF ⟨_, rfl, _, rfl, _, rfl, tr, _, _, _, rfl, rfl, SqT.of sa.tr, at_int (by lia), _, rfl, _, rfl, r, fr, er, ps, N, _, _, _, rfl, ok, na, gf, fun p1 ms' ms H1 pt s1 h1 gr1 => ?_⟩
    refine ⟨_, rfl, _, rfl, tr, _, _, _, rfl, rfl, SqT.of (s1 _ _ sa.tr), at_int (by lia), _, rfl, _, _, rfl, rfl, _, _, rfl, rfl, (by show (0 : Int) < 2; decide), ?_⟩
    refine ⟨_, rfl, _, rfl, _, rfl, tr, ts, _, _, rfl, s1 _ _ sa.tr, by lia, by lia, fun p2 H2 s2 h2 => ?_⟩
    have u2 := s1.trans s2
    refine ⟨_, rfl, _, rfl, _, rfl, gr, _, rfl, u2 _ _ sa.gr, fun p3 H3 s3 h3 => ?_⟩
    rw [cut_upto _ place (by lia)] at h3
    have ml : ms'.length ≤ 2 := by rw [gr1.len]; exact pt.len
    refine ⟨_, rfl, p3, p1, _, _, rfl, rfl, h3, (s2.trans s3) _ _ h1, ?_, fun p4 H4 s4 h4 => ?_⟩
    · rw [List.length_take, sizeLine_eq]; lia
    have u4 := (u2.trans s3).trans s4
    refine ⟨_, rfl, _, rfl, _, _, rfl, rfl, _, rfl, gr, _, rfl, u4 _ _ sa.gr, fun p5 H5 s5 h5 => ?_⟩
    rw [show ((place : Int) + 1) = ((place + 1 : Nat) : Int) from rfl, cut_from _ (place + 1) (by lia)] at h5
    refine ⟨p4, p5, _, _, rfl, rfl, s5 _ _ h4, h5, ?_, fun p6 H6 s6 h6 => ?_⟩
    · rw [List.length_append, List.length_take, List.length_drop, sizeLine_eq]; lia
    refine ⟨_, rfl, (by show 3 ≤ sizeLine; decide), fun sc' h7 => ?_⟩
    have s7 := same_new h7 (.tup [.ref p2, .ref p6, .ref ou])
    have u7 := ((u4.trans s5).trans s6).trans s7
    have sa7 := sa.tups (Tups.of u7)
    have t7 := ((s3.trans s4).trans (s5.trans s6)).trans s7
    exact k sc' p2 p6 ou _ _ _ os _ ⟨g, eg, .inr ⟨gf, rfl, rfl, ms, pt, rfl⟩⟩ u7 ⟨upd_same, t7 _ _ h2, s7 _ _ h6, ((sa7.grs.take place).app (gr1.tups (Tups.of (s2.trans t7)))).app (sa7.grs.drop (place + 1)), sa7.ou⟩
theorem scJo : FnScope ["scene", "first", "second", "turns", "groups", "out", "many", "lane", "number", "more", "other_lane", "other_number", "whole"] ["scene", "first", "second"] (defScope sJoined) := ⟨rfl, rfl, rfl, by decide +kernel, rfl, by decide +kernel, by decide +kernel⟩
theorem ok_joined {f : Addr} {fd : FuncData} (F : Fun K "joined" "joined" sJoined f fd) (G : Mgs mg) : FnOk P w K mg base CX0 1 f fd ["scene", "first", "second"] spJoined := by
  refine F.ok scJo (fun vs H Q E h => ?_) (fun cdv A outer s H vs Q E hr h => ?_)
  · obtain ⟨sc, tr, gr, ou, qs, ts, gs, os, first, second, rfl, _⟩ := h
    rfl
  obtain ⟨sc, tr, gr, ou, qs, ts, gs, os, first, second, rfl, sa, fs, sl, gl, same, k⟩ := h
  refine ⟨_, (@pss_cons _ _ _ _ _ (@ps_asg _ _ _ _ _ _ (@pv _ 0 _ _ (by rfl) (by first | exact Or.inl rfl | exact Or.inr (Or.inl rfl) | exact Or.inr (Or.inr rfl)) (by decide) (by decide)) (@pg_tup _ _ _ _ _ _ rfl (@pgs_cons _ _ _ _ _ (@pg_name _ _ 3 _ scJo.nd rfl (Or.inl rfl) (by first | exact .inl rfl | exact .inr rfl | assumption)) (@pgs_cons _ _ _ _ _ (@pg_name _ _ 4 _ scJo.nd rfl (Or.inl rfl) (by first | exact .inl rfl | exact .inr rfl | assumption)) (@pgs_cons _ _ _ _ _ (@pg_name _ _ 5 _ scJo.nd rfl (Or.inl rfl) (by first | exact .inl rfl | exact .inr rfl | assumption)) pgs_nil (by rfl)) (by rfl)) (by rfl)) (by rfl) (by rfl)) (by rfl) (by rfl) (by rfl)) (@pss_cons _ _ _ _ _ (@ps_if _ _ _ _ _ _ _ _ (@pt_cmpR _ _ _ _ _ _ _ _ op_ge (@pv _ 2 _ _ (by rfl) (by first | exact Or.inl rfl | exact Or.inr (Or.inl rfl) | exact Or.inr (Or.inr rfl)) (by decide) (by decide)) (@pe_callB _ _ _ _ _ _ _ _ _ call_len_seq (by rfl) G.len PySem.boot_len (@pa_cons _ _ _ _ _ (@pv _ 4 _ _ (by rfl) (by first | exact Or.inl rfl | exact Or.inr (Or.inl rfl) | exact Or.inr (Or.inr rfl)) (by decide) (by decide)) pa_nil (by rfl)) (by decide) (by decide) (by rfl) (by rfl)) (nomark _)) (@pss_one _ _ _ ps_dead) pss_nil) (@pss_cons _ _ _ _ _ (@ps_asg _ _ _ _ _ _ (@pe_ix _ _ _ _ _ _ _ ix_tup (@pv _ 4 _ _ (by rfl) (by first | exact Or.inl rfl | exact Or.inr (Or.inl rfl) | exact Or.inr (Or.inr rfl)) (by decide) (by decide)) (@pv _ 1 _ _ (by rfl) (by first | exact Or.inl rfl | exact Or.inr (Or.inl rfl) | exact Or.inr (Or.inr rfl)) (by decide) (by decide)) (fun _ _ => rfl)) (@pg_tup _ _ _ _ _ _ rfl (@pgs_cons _ _ _ _ _ (@pg_name _ _ 6 _ scJo.nd rfl (Or.inl rfl) (by first | exact .inl rfl | exact .inr rfl | assumption)) (@pgs_cons _ _ _ _ _ (@pg_name _ _ 7 _ scJo.nd rfl (Or.inl rfl) (by first | exact .inl rfl | exact .inr rfl | assumption)) (@pgs_cons _ _ _ _ _ (@pg_name _ _ 8 _ scJo.nd rfl (Or.inl rfl) (by first | exact .inl rfl | exact .inr rfl | assumption)) pgs_nil (by rfl)) (by rfl)) (by rfl)) (by rfl) (by rfl)) (by rfl) (by rfl) (by rfl)) (@pss_cons _ _ _ _ _ (@ps_asg _ _ _ _ _ _ (@pe_ix _ _ _ _ _ _ _ ix_tup (@pv _ 4 _ _ (by rfl) (by first | exact Or.inl rfl | exact Or.inr (Or.inl rfl) | exact Or.inr (Or.inr rfl)) (by decide) (by decide)) (@pv _ 2 _ _ (by rfl) (by first | exact Or.inl rfl | exact Or.inr (Or.inl rfl) | exact Or.inr (Or.inr rfl)) (by decide) (by decide)) (fun _ _ => rfl)) (@pg_tup _ _ _ _ _ _ rfl (@pgs_cons _ _ _ _ _ (@pg_name _ _ 9 _ scJo.nd rfl (Or.inl rfl) (by first | exact .inl rfl | exact .inr rfl | assumption)) (@pgs_cons _ _ _ _ _ (@pg_name _ _ 10 _ scJo.nd rfl (Or.inl rfl) (by first | exact .inl rfl | exact .inr rfl | assumption)) (@pgs_cons _ _ _ _ _ (@pg_name _ _ 11 _ scJo.nd rfl (Or.inl rfl) (by first | exact .inl rfl | exact .inr rfl | assumption)) pgs_nil (by rfl)) (by rfl)) (by rfl)) (by rfl) (by rfl)) (by rfl) (by rfl) (by rfl)) (@pss_cons _ _ _ _ _ (@ps_if _ _ _ _ _ _ _ _ (@pw_or _ _ _ _ _ _ _ (@pt_cmpR _ _ _ _ _ _ _ _ op_ne (@pv _ 7 _ _ (by rfl) (by first | exact Or.inl rfl | exact Or.inr (Or.inl rfl) | exact Or.inr (Or.inr rfl)) (by decide) (by decide)) (@pv _ 10 _ _ (by rfl) (by first | exact Or.inl rfl | exact Or.inr (Or.inl rfl) | exact Or.inr (Or.inr rfl)) (by decide) (by decide)) (nomark _)) (@pw_or1 _ _ _ _ (@pt_cmpR _ _ _ _ _ _ _ _ op_ne (@pv _ 8 _ _ (by rfl) (by first | exact Or.inl rfl | exact Or.inr (Or.inl rfl) | exact Or.inr (Or.inr rfl)) (by decide) (by decide)) (@pv _ 11 _ _ (by rfl) (by first | exact Or.inl rfl | exact Or.inr (Or.inl rfl) | exact Or.inr (Or.inr rfl)) (by decide) (by decide)) (nomark _)))).pt (@pss_one _ _ _ ps_dead) pss_nil) (@pss_cons _ _ _ _ _ (@ps_set _ _ 12 _ _ _ _ scJo.nd rfl (Or.inl rfl) (@pe_ifExp _ _ _ _ _ _ _ _ (@pt_cmpR _ _ _ _ _ _ _ _ op_ne (@pe_op _ _ _ _ _ _ _ _ op_add (@pv _ 6 _ _ (by rfl) (by first | exact Or.inl rfl | exact Or.inr (Or.inl rfl) | exact Or.inr (Or.inr rfl)) (by decide) (by decide)) (@pv _ 9 _ _ (by rfl) (by first | exact Or.inl rfl | exact Or.inr (Or.inl rfl) | exact Or.inr (Or.inr rfl)) (by decide) (by decide))) pe_int (nomark _)) (@pe_tup _ _ _ _ _ (@pa_cons _ _ _ _ _ (@pe_tup _ _ _ _ _ (@pa_cons _ _ _ _ _ (@pe_op _ _ _ _ _ _ _ _ op_add (@pv _ 6 _ _ (by rfl) (by first | exact Or.inl rfl | exact Or.inr (Or.inl rfl) | exact Or.inr (Or.inr rfl)) (by decide) (by decide)) (@pv _ 9 _ _ (by rfl) (by first | exact Or.inl rfl | exact Or.inr (Or.inl rfl) | exact Or.inr (Or.inr rfl)) (by decide) (by decide))) (@pa_cons _ _ _ _ _ (@pv _ 7 _ _ (by rfl) (by first | exact Or.inl rfl | exact Or.inr (Or.inl rfl) | exact Or.inr (Or.inr rfl)) (by decide) (by decide)) (@pa_cons _ _ _ _ _ (@pv _ 8 _ _ (by rfl) (by first | exact Or.inl rfl | exact Or.inr (Or.inl rfl) | exact Or.inr (Or.inr rfl)) (by decide) (by decide)) pa_nil (by rfl)) (by rfl)) (by rfl))) pa_nil (by rfl))) (@pe_tup _ _ _ _ _ pa_nil)) (by rfl) (by first | exact .inl rfl | exact .inr rfl | assumption)) (@pss_one _ _ _ (@ps_ret _ _ _ _ (@pe_tup _ _ _ _ _ (@pa_cons _ _ _ _ _ (@pv _ 3 _ _ (by rfl) (by first | exact Or.inl rfl | exact Or.inr (Or.inl rfl) | exact Or.inr (Or.inr rfl)) (by decide) (by decide)) (@pa_cons _ _ _ _ _ (@pe_op _ _ _ _ _ _ _ _ op_catH (@pe_op _ _ _ _ _ _ _ _ op_catH (@pe_op _ _ _ _ _ _ _ _ op_catH (@pe_slice _ _ _ _ _ _ _ _ _ _ sl_tupH (@pv _ 4 _ _ (by rfl) (by first | exact Or.inl rfl | exact Or.inr (Or.inl rfl) | exact Or.inr (Or.inr rfl)) (by decide) (by decide)) po_none (@po_some _ _ _ (@pv _ 1 _ _ (by rfl) (by first | exact Or.inl rfl | exact Or.inr (Or.inl rfl) | exact Or.inr (Or.inr rfl)) (by decide) (by decide)))) (@pv _ 12 _ _ (by rfl) (by first | exact Or.inl rfl | exact Or.inr (Or.inl rfl) | exact Or.inr (Or.inr rfl)) (by decide) (by decide))) (@pe_slice _ _ _ _ _ _ _ _ _ _ sl_tupH (@pv _ 4 _ _ (by rfl) (by first | exact Or.inl rfl | exact Or.inr (Or.inl rfl) | exact Or.inr (Or.inr rfl)) (by decide) (by decide)) (@po_some _ _ _ (@pe_op _ _ _ _ _ _ _ _ op_add (@pv _ 1 _ _ (by rfl) (by first | exact Or.inl rfl | exact Or.inr (Or.inl rfl) | exact Or.inr (Or.inr rfl)) (by decide) (by decide)) pe_int)) (@po_some _ _ _ (@pv _ 2 _ _ (by rfl) (by first | exact Or.inl rfl | exact Or.inr (Or.inl rfl) | exact Or.inr (Or.inr rfl)) (by decide) (by decide))))) (@pe_slice _ _ _ _ _ _ _ _ _ _ sl_tupH (@pv _ 4 _ _ (by rfl) (by first | exact Or.inl rfl | exact Or.inr (Or.inl rfl) | exact Or.inr (Or.inr rfl)) (by decide) (by decide)) (@po_some _ _ _ (@pe_op _ _ _ _ _ _ _ _ op_add (@pv _ 2 _ _ (by rfl) (by first | exact Or.inl rfl | exact Or.inr (Or.inl rfl) | exact Or.inr (Or.inr rfl)) (by decide) (by decide)) pe_int)) po_none)) (@pa_cons _ _ _ _ _ (@pv _ 5 _ _ (by rfl) (by first | exact Or.inl rfl | exact Or.inr (Or.inl rfl) | exact Or.inr (Or.inr rfl)) (by decide) (by decide)) pa_nil (by rfl)) (by rfl)) (by rfl))))))))))), ?_⟩
  have ql := sa.grs.len
  obtain ⟨ga, g, ega, eg, hga⟩ := sa.grs.get (List.getElem?_eq_getElem (show first < qs.length by lia))
  obtain ⟨ha, h, eha, eh, hha⟩ := sa.grs.get (List.getElem?_eq_getElem (show second < qs.length by lia))
  obtain ⟨sl1, sf1⟩ := same g h eg eh
  have eat1 : atI qs ((first : Nat) : Int) = some (.ref ga) := atI_nat (by rw [List.getElem?_eq_getElem (by lia), ega])
  have eat2 : atI qs ((second : Nat) : Int) = some (.ref ha) := atI_nat (by rw [List.getElem?_eq_getElem (by lia), eha])
  refine ⟨_, rfl, sc, _, rfl, SqT.of sa.sc, rfl, _, _, rfl, _, _, rfl, _, _, rfl, rfl, ?_⟩
  refine ⟨_, rfl, _, rfl, gr, _, rfl, .inr (SqT.of sa.gr), _, _, rfl, rfl, _, rfl, ?_⟩
  rw [decide_eq_false (show ¬ _ from by lia)]
  refine iteF ⟨_, rfl, _, rfl, gr, _, _, _, rfl, rfl, SqT.of sa.gr, eat1, ga, _, rfl, SqT.of hga, rfl, _, _, rfl, _, _, rfl, _, _, rfl, rfl, ?_⟩
  refine ⟨_, rfl, _, rfl, gr, _, _, _, rfl, rfl, SqT.of sa.gr, eat2, ha, _, rfl, SqT.of hha, rfl, _, _, rfl, _, _, rfl, _, _, rfl, rfl, ?_⟩
  refine ⟨_, rfl, _, rfl, rfl, _, rfl, ?_⟩
  rw [show (!decide (V.int (g.lane : Int) = V.int (h.lane : Int))) = false from by rw [decide_eq_true (by rw [sl1])]; rfl]
  refine iteF ⟨_, rfl, _, rfl, rfl, _, rfl, ?_⟩
  rw [show (!decide (V.int (g.fork : Int) = V.int (h.fork : Int))) = false from by rw [decide_eq_true (by rw [sf1])]; rfl]
  refine iteF ⟨_, rfl, _, rfl, _, _, rfl, rfl, rfl, _, rfl, ?_⟩
  by_cases z : g.many + h.many = 0
  · rw [show (!decide (V.int (g.many + h.many) = V.int 0)) = false from by rw [decide_eq_true (by rw [z])]; rfl]
    refine iteF ⟨(by show 0 ≤ sizeLine; decide), fun wh hwh => ?_⟩
    have sw := same_new hwh (.tup [])
    refine ⟨_, rfl, _, rfl, _, rfl, _, rfl, gr, _, rfl, sw _ _ sa.gr, fun p1 H1 s1 h1 => ?_⟩
    rw [cut_upto _ first (by lia)] at h1
    refine ⟨_, rfl, p1, wh, _, _, rfl, rfl, h1, s1 _ _ upd_same, ?_, fun p2 H2 s2 h2 => ?_⟩
    · rw [List.length_take, sizeLine_eq]; show _ + 0 ≤ _; lia
    have u2 := (sw.trans s1).trans s2
    refine ⟨_, rfl, _, rfl, _, _, rfl, rfl, _, rfl, _, rfl, _, rfl, gr, _, rfl, u2 _ _ sa.gr, fun p3 H3 s3 h3 => ?_⟩
    rw [show ((first : Int) + 1) = ((first + 1 : Nat) : Int) from rfl, cut_mid _ (first + 1) second (by lia) (by lia)] at h3
    refine ⟨p2, p3, _, _, rfl, rfl, s3 _ _ h2, h3, ?_, fun p4 H4 s4 h4 => ?_⟩
    · rw [List.length_append, List.length_take, List.length_take, List.length_drop, sizeLine_eq]; show _ + 0 + _ ≤ _; lia
    have u4 := (u2.trans s3).trans s4
    refine ⟨_, rfl, _, rfl, _, _, rfl, rfl, _, rfl, gr, _, rfl, u4 _ _ sa.gr, fun p5 H5 s5 h5 => ?_⟩
    rw [show ((second : Int) + 1) = ((second + 1 : Nat) : Int) from rfl, cut_from _ (second + 1) (by lia)] at h5
    refine ⟨p4, p5, _, _, rfl, rfl, s5 _ _ h4, h5, ?_, fun p6 H6 s6 h6 => ?_⟩
    · rw [List.length_append, List.length_append, List.length_take, List.length_take, List.length_drop, List.length_drop, sizeLine_eq]; show _ + 0 + _ + _ ≤ _; lia
    refine ⟨_, rfl, (by show 3 ≤ sizeLine; decide), fun sc' h7 => ?_⟩
    have s7 := same_new h7 (.tup [.ref tr, .ref p6, .ref ou])
    have t7 := ((s3.trans s4).trans (s5.trans s6)).trans s7
    have u7 := u2.trans t7
    have sa7 := sa.tups (Tups.of u7)
    exact k sc' p6 _ _ _ ⟨g, h, eg, eh, rfl⟩ u7 ⟨upd_same, sa7.tr, s7 _ _ h6, (((sa7.grs.take first).app (show Grs _ [] (part (g.many + h.many) g.lane g.fork) from by unfold part; rw [if_pos z]; exact trivial)).app ((sa7.grs.drop (first + 1)).take (second - (first + 1)))).app (sa7.grs.drop (second + 1)), sa7.ou⟩
  · rw [show (!decide (V.int (g.many + h.many) = V.int 0)) = true from by rw [decide_eq_false (fun y => z (V.int.inj y))]; rfl]
    refine iteT ⟨_, rfl, _, rfl, _, _, rfl, rfl, _, rfl, _, rfl, (by show 3 ≤ sizeLine; decide), fun wt hwt => ⟨(by show 1 ≤ sizeLine; decide), fun wh hwh => ?_⟩⟩
    have sv := same_new hwh (.tup [.ref wt])
    have sw := (same_new hwt (.tup [.int (g.many + h.many), .int g.lane, .int g.fork])).trans sv
    refine ⟨_, rfl, _, rfl, _, rfl, _, rfl, gr, _, rfl, sw _ _ sa.gr, fun p1 H1 s1 h1 => ?_⟩
    rw [cut_upto _ first (by lia)] at h1
    refine ⟨_, rfl, p1, wh, _, _, rfl, rfl, h1, s1 _ _ upd_same, ?_, fun p2 H2 s2 h2 => ?_⟩
    · rw [List.length_take, sizeLine_eq]; show _ + 1 ≤ _; lia
    have u2 := (sw.trans s1).trans s2
    refine ⟨_, rfl, _, rfl, _, _, rfl, rfl, _, rfl, _, rfl, _, rfl, gr, _, rfl, u2 _ _ sa.gr, fun p3 H3 s3 h3 => ?_⟩
    rw [show ((first : Int) + 1) = ((first + 1 : Nat) : Int) from rfl, cut_mid _ (first + 1) second (by lia) (by lia)] at h3
    refine ⟨p2, p3, _, _, rfl, rfl, s3 _ _ h2, h3, ?_, fun p4 H4 s4 h4 => ?_⟩
    · rw [List.length_append, List.length_take, List.length_take, List.length_drop, sizeLine_eq]; show _ + 1 + _ ≤ _; lia
    have u4 := (u2.trans s3).trans s4
    refine ⟨_, rfl, _, rfl, _, _, rfl, rfl, _, rfl, gr, _, rfl, u4 _ _ sa.gr, fun p5 H5 s5 h5 => ?_⟩
    rw [show ((second : Int) + 1) = ((second + 1 : Nat) : Int) from rfl, cut_from _ (second + 1) (by lia)] at h5
    refine ⟨p4, p5, _, _, rfl, rfl, s5 _ _ h4, h5, ?_, fun p6 H6 s6 h6 => ?_⟩
    · rw [List.length_append, List.length_append, List.length_take, List.length_take, List.length_drop, List.length_drop, sizeLine_eq]; show _ + 1 + _ + _ ≤ _; lia
    refine ⟨_, rfl, (by show 3 ≤ sizeLine; decide), fun sc' h7 => ?_⟩
    have s7 := same_new h7 (.tup [.ref tr, .ref p6, .ref ou])
    have t7 := ((s3.trans s4).trans (s5.trans s6)).trans s7
    have u7 := u2.trans t7
    have sa7 := sa.tups (Tups.of u7)
    exact k sc' p6 _ _ _ ⟨g, h, eg, eh, rfl⟩ u7 ⟨upd_same, sa7.tr, s7 _ _ h6, (((sa7.grs.take first).app (show Grs _ [.ref wt] (part (g.many + h.many) g.lane g.fork) from by unfold part; rw [if_neg z]; exact Grs.one ((((sv.trans s1).trans s2).trans t7) _ _ upd_same))).app ((sa7.grs.drop (first + 1)).take (second - (first + 1)))).app (sa7.grs.drop (second + 1)), sa7.ou⟩
end
end K20
end
section
set_option maxHeartbeats 4000001
namespace L2
open PySem PySem.Spec PyProof.Rows
section
variable {κ : Type} [DecidableEq κ]
end
section
variable {P : Program} {w : World} {H : Hp} {h : Heap} {a : Addr}
end

section
variable {X : Cx} {pins : List (Addr × Obj)} {σ : St} {H : Hp} {s : Shared} {a : Addr} {y v : V} {u r : Value} {o : Option V} {A : Around} {E : Value → Shared → Prop}

end

section
variable {X : Cx} {pins : List (Addr × Obj)} {σ : St} {H : Hp} {s : Shared} {a : Addr} {kvs : List (Key × V)} {k : Key} {u : Value} {A : Around} {E : Value → Shared → Prop}
end
section
variable {X : Cx} {o i e value : Expr} {pos pos' tpos : Pos} {td ty tv : TE}
end
section
variable {X : Cx} {pos : Pos}
end
section
variable {X : Cx} {pins : List (Addr × Obj)} {σ : St} {H : Hp} {s : Shared} {a : Addr} {y d : V} {u r : Value} {o : Option V} {A : Around} {E : Value → Shared → Prop}
end

section
variable {X : Cx} {o e f : Expr} {apos cpos : Pos} {td ty tx : TE}
end
section
variable {X : Cx} {pins : List (Addr × Obj)} {σ : St} {H : Hp} {s : Shared} {a : Addr} {kvs : List (Key × V)} {A : Around} {E : Value → Shared → Prop}
end


section
variable {X : Cx} {pins : List (Addr × Obj)} {σ : St} {H : Hp} {s : Shared} {a : Addr} {y : V} {u : Value} {A : Around} {E : Value → Shared → Prop}
end
end L2
end
section
set_option maxHeartbeats 4000001
namespace Bn
open PySem L2 Own
end Bn
end
section
set_option maxHeartbeats 4000001
namespace Bn
open PySem L2 Own
theorem deq_ints {K : PySem.W.Frag} {H : Hp} {a b : Addr} {xs : List Int} (h1 : H a = some (.tup (xs.map V.int))) (h2 : H b = some (.tup (xs.map V.int))) : DEq K H 1 (.ref a) (.ref b) :=
  .inr ⟨a, b, _, _, rfl, rfl, SqT.of h1, SqT.of h2, rfl, fun i u v hu hv => by
    rw [hu] at hv
    obtain rfl := Option.some.inj hv
    refine ⟨rfl, ?_⟩
    rw [List.getElem?_map] at hu
    cases e : xs[i]? with
    | none => rw [e] at hu; cases hu
    | some z => rw [e] at hu; obtain rfl := Option.some.inj hu; rfl⟩
end Bn
end
section
set_option maxHeartbeats 4000001
namespace L2
open PySem PySem.Spec PyProof.Rows Own
section
variable {X : Cx}
end
end L2
end
section
set_option maxHeartbeats 4000001
namespace Bn
open PySem L2 Own
def nm (ns : List Nat) (i : Nat) : Nat := ns.getD i 0
section
variable {ns : List Nat} {n : Nat} (pm : ns.Perm (List.range n))
include pm
end
def Nt.again (N : Nt) (f : Nat × Nat) : Nt := ⟨N.lanes, N.forks ++ [f], N.ends⟩
end Bn
end
section
set_option maxHeartbeats 4000001
namespace Bn
open PySem L2 Own
def big (x y : Int) : Int := if y > x then y else x
def layStep (st : List Int × List Int) (f : Nat × Nat) : List Int × List Int :=
  ((st.1.set f.1 (1 + big (st.1.getD f.1 0) (st.1.getD f.2 0))).set f.2 (1 + big (st.1.getD f.1 0) (st.1.getD f.2 0)), st.2 ++ [1 + big (st.1.getD f.1 0) (st.1.getD f.2 0)])
def lay (n : Nat) (fs : List (Nat × Nat)) : List Int × List Int := fs.foldl layStep (List.replicate n 0, [])
def meets (g f : Nat × Nat) : Bool := decide (g.1 = f.1 ∨ g.1 = f.2) || decide (g.2 = f.1 ∨ g.2 = f.2)
def ahead (fs : List (Nat × Nat)) (fo : List Int) (f : Nat × Nat) (i : Nat) : List Int := ((List.range i).filter fun j => meets (fs.getD j (0, 0)) f).map fun j => fo.getD j 0
def layers (N : Nt) : List Int := (lay N.lanes N.forks).2
end Bn
end
section
set_option maxHeartbeats 4000001
namespace Bn
open PySem L2 Own
abbrev Fk := Nat × Nat
def run {σ α : Type} (step : σ → Fk → σ × α) : σ → List Fk → σ × List (α × Fk)
  | s, [] => (s, [])
  | s, f :: fs => ((run step (step s f).1 fs).1, ((step s f).2, f) :: (run step (step s f).1 fs).2)
def rnk (x : Int × Fk) : Int := x.1 * 1024 + x.2.1 * 32 + x.2.2
def ins (x : Int × Fk) : List (Int × Fk) → List (Int × Fk)
  | [] => [x]
  | y :: l => if rnk x ≤ rnk y then x :: y :: l else y :: ins x l
end Bn
end
section
set_option maxHeartbeats 4000001
namespace Bn
open PySem L2 Own
end Bn
end
section
set_option maxHeartbeats 4000001
namespace Ts
open PySem PyProof.Rows
def R (rk : Keyed → Int) (xs : Array Keyed) (i : Nat) : Int := match xs[i]? with
  | some p => rk p
  | none => 0
section
variable {prog : Program} {w : World} {A : Around} {E : Value → Shared → Prop} {s : Shared} {κ : SortKind} {P : Keyed → Prop} {rk : Keyed → Int} {a₀ : Array Keyed}
end
end Ts
end
section
set_option maxHeartbeats 4000001
namespace Ts
open PySem PyProof.Rows
section
variable {prog : Program} {w : World} {A : Around} {E : Value → Shared → Prop} {s : Shared} {κ : SortKind} {P : Keyed → Prop} {rk : Keyed → Int} {a₀ : Array Keyed}
end
end Ts
end
section
set_option maxHeartbeats 4000001
namespace Ts
open PySem PyProof.Rows
section
variable {prog : Program} {w : World} {A : Around} {E : Value → Shared → Prop} {s : Shared} {κ : SortKind} {P : Keyed → Prop} {rk : Keyed → Int} {a₀ : Array Keyed}
end
end Ts
end
section
set_option maxHeartbeats 4000001
namespace Ts
open PySem PyProof.Rows
section
variable {rk : Keyed → Int} {T out a b c : List Keyed}
end
section
variable {rk : Keyed → Int} {T : List Keyed} {out a b : Array Keyed} {ia ib k : Nat} {p q : Keyed}
end
end Ts
end
section
set_option maxHeartbeats 4000001
namespace Ts
open PySem PyProof.Rows
section
variable {prog : Program} {w : World} {A : Around} {E : Value → Shared → Prop} {s : Shared} {κ : SortKind} {P : Keyed → Prop} {rk : Keyed → Int} {a₀ : Array Keyed}
end
end Ts
end
section
set_option maxHeartbeats 4000001
namespace Ts
open PySem PyProof.Rows
section
variable {rk : Keyed → Int} {T out a b c : List Keyed}
end
section
variable {rk : Keyed → Int} {T : List Keyed} {out a b : Array Keyed} {na nb i : Nat} {p q : Keyed}
end
section
variable {prog : Program} {w : World} {A : Around} {E : Value → Shared → Prop} {s : Shared} {κ : SortKind} {P : Keyed → Prop} {rk : Keyed → Int} {a₀ : Array Keyed}
end
end Ts
end
section
set_option maxHeartbeats 4000001
namespace Ts
open PySem PyProof.Rows
section
variable {rk : Keyed → Int}
end
section
variable {prog : Program} {w : World} {A : Around} {E : Value → Shared → Prop} {s : Shared} {κ : SortKind} {P : Keyed → Prop} {rk : Keyed → Int} {a₀ : Array Keyed}
end
end Ts
end
section
set_option maxHeartbeats 4000001
namespace Ts
open PySem PyProof.Rows
section
variable {prog : Program} {w : World} {A : Around} {E : Value → Shared → Prop} {s : Shared} {κ : SortKind} {P : Keyed → Prop} {rk : Keyed → Int} {a₀ : Array Keyed}
end
end Ts
end
section
set_option maxHeartbeats 4000001
namespace Ts
open PySem PyProof.Rows
section
variable {prog : Program} {w : World} {A : Around} {E : Value → Shared → Prop} {s : Shared}
end
end Ts
end
section
set_option maxHeartbeats 4000001
namespace Own
open PySem PySem.Spec PyProof.Rows
section
variable {prog : Program} {w : World} {A : Around} {E : Value → Shared → Prop} {s : Shared} {z TI TO i1 i2 : Addr} {f1 f2 : List Addr} {n1 n2 k : Nat} {P1 P2 : Nat → Value → Prop} {S1 S2 : Nat → Heap → Prop} {a b : Value}
end
end Own
end
section
set_option maxHeartbeats 4000001
namespace Own
open PySem PySem.Spec PyProof.Rows
section
variable {prog : Program} {w : World} {A : Around} {E : Value → Shared → Prop} {s : Shared} {z TI TO i1 i2 L : Addr} {f1 f2 : List Addr} {n n2 k : Nat} {P1 P2 : Nat → Value → Prop} {S1 S2 : Nat → Heap → Prop}
end
end Own
end
section
set_option maxHeartbeats 4000001
namespace Own
open PySem PySem.Spec PyProof.Rows Ts
section
variable {prog : Program} {w : World} {A : Around} {E : Value → Shared → Prop} {s : Shared}
end
end Own
namespace L2
open PySem PySem.Spec PyProof.Rows Own Ts
section
variable {X : Cx}
end
end L2
end
section
set_option maxHeartbeats 4000001
namespace L2
open PySem PySem.Spec PyProof.Rows Own Ts
section
variable {prog : Program} {w : World} {A : Around} {E : Value → Shared → Prop} {s : Shared}
end
section
variable {X : Cx}
end
section
variable {X : Cx}
end
end L2
end
section
set_option maxHeartbeats 4000001
namespace L2
open PySem PySem.Spec PyProof.Rows Own Ts
end L2
end
section
set_option maxHeartbeats 4000001
namespace Bn
open PySem L2 Own
end Bn
end
section
set_option maxHeartbeats 4000001
namespace Bn
open PySem L2 Own
end Bn
end
section
set_option maxHeartbeats 4000001
namespace Bn
open PySem L2 Own
end Bn
end
section
set_option maxHeartbeats 4000001
namespace L2
open PySem PySem.Spec PyProof.Rows Own
section
variable {X : Cx}
end
end L2
namespace Bn
open PySem L2 Own
end Bn
end
section
set_option maxHeartbeats 4000001
namespace Bn
open PySem L2 Own
end Bn
end
section
set_option maxHeartbeats 4000001
namespace L2
open PySem PySem.Spec PyProof.Rows Own
section
variable {prog : Program} {w : World} {A : Around} {E : Value → Shared → Prop} {it l : Addr} {items : Array Value}
end
section
variable {X : Cx}
end
end L2
end
section
set_option maxHeartbeats 4000001
namespace L2
open PySem
end L2
namespace Bn
open PySem L2 Own
theorem in_app {α : Type} {x : α} {a b : List α} (h : x ∈ a ++ b) : x ∈ a ∨ x ∈ b := List.mem_append.mp h
section
variable {H0 H H' : Hp} {l d lt lg lo : Addr} {qa : List Addr} {ts os : List Int} {gs : List Grp}
end
inductive Dd
  | put (lane : Nat) (many : Int)
  | step (place : Nat)
  | join (i j : Nat)
def DeedAt (H : Hp) (t : Addr) : Dd → Prop
  | .put lane many => H t = some (.tup [.str "put", .int lane, .int many])
  | .step place => H t = some (.tup [.str "step", .int place])
  | .join i j => H t = some (.tup [.str "join", .int i, .int j])
def Alike (gs : List Grp) (i j : Nat) : Prop := ∀ g h, gs[i]? = some g → gs[j]? = some h → g.lane = h.lane ∧ g.fork = h.fork
def DeedOk (N : Nt) (gs : List Grp) : Dd → Prop
  | .put lane many => lane < N.lanes ∧ many ≠ 0 ∧ -(10 ^ 29) < many ∧ many < 10 ^ 29
  | .step place => place < gs.length
  | .join i j => i < j ∧ j < gs.length ∧ Alike gs i j
def DoTo (N : Nt) (ts : List Int) (gs : List Grp) (os ts' : List Int) (gs' : List Grp) (os' : List Int) : Dd → Prop
  | .put lane many => ts' = ts ∧ os' = os ∧ ∃ k, IsNext N.forks lane 0 k ∧ gs' = gs ++ [⟨many, lane, k⟩]
  | .step place => StepTo N place ts gs os ts' gs' os'
  | .join i j => ts' = ts ∧ os' = os ∧ JoinTo i j gs gs'
structure ScOk (N : Nt) (ts : List Int) (gs : List Grp) (os : List Int) : Prop where
  tl : ts.length = N.forks.length
  tb : ∀ t ∈ ts, t = 0 ∨ t = 1
  ol : os.length = N.lanes
  gk : ∀ g ∈ gs, g.lane < N.lanes ∧ g.fork ≤ N.forks.length
theorem part_mem {m : Int} {lane k : Nat} {g : Grp} (h : g ∈ part m lane k) : g = ⟨m, lane, k⟩ := by
  unfold part at h
  split at h
  · simp at h
  · simpa using h
theorem set_bit {ts : List Int} {i : Nat} {v : Int} (h : ∀ t ∈ ts, t = 0 ∨ t = 1) (hv : v = 0 ∨ v = 1) : ∀ t ∈ ts.set i v, t = 0 ∨ t = 1 := fun t ht => by
  rcases List.mem_or_eq_of_mem_set ht with z | z
  · exact h t z
  · rw [z]; exact hv
theorem DoTo.ok {N : Nt} (okN : N.Ok) {ts os ts' os' : List Int} {gs gs' : List Grp} {dd : Dd} (k : ScOk N ts gs os) (dk : DeedOk N gs dd) (h : DoTo N ts gs os ts' gs' os' dd) : ScOk N ts' gs' os' ∧ gs'.length ≤ gs.length + 1 := by
  cases dd with
  | put lane many =>
    obtain ⟨rfl, rfl, kk, hk, rfl⟩ := h
    refine ⟨⟨k.tl, k.tb, k.ol, fun g hg => ?_⟩, by rw [List.length_append]; exact Nat.le_refl _⟩
    rcases in_app hg with hg | hg
    · exact k.gk g hg
    · rw [List.mem_singleton.mp hg]; exact ⟨dk.1, hk.upto⟩
  | step place =>
    obtain ⟨g, eg, h⟩ := h
    have gm := List.mem_of_getElem? eg
    have gl := (List.getElem?_eq_some_iff.mp eg).1
    rcases h with ⟨z, rfl, rfl, rfl⟩ | ⟨z, rfl, rfl, ms, pt, rfl⟩
    · refine ⟨⟨k.tl, k.tb, by rw [List.length_set]; exact k.ol, fun q hq => ?_⟩, by rw [List.length_append, List.length_take, List.length_drop]; lia⟩
      rcases in_app hq with hq | hq
      · exact k.gk q (List.mem_of_mem_take hq)
      · exact k.gk q (List.mem_of_mem_drop hq)
    · have pl := pt.len
      refine ⟨⟨by rw [List.length_set]; exact k.tl, set_bit k.tb (by lia), k.ol, fun q hq => ?_⟩, by rw [List.length_append, List.length_append, List.length_take, List.length_drop]; lia⟩
      rcases in_app hq with hq | hq
      · rcases in_app hq with hq | hq
        · exact k.gk q (List.mem_of_mem_take hq)
        · obtain ⟨f, k1, k2, ef, n1, n2, rfl⟩ := pt
          have fo := okN.fk f (List.mem_of_getElem? ef)
          rcases in_app hq with hq | hq
          · rw [part_mem hq]; exact ⟨fo.1, n1.upto⟩
          · rw [part_mem hq]; exact ⟨fo.2.1, n2.upto⟩
      · exact k.gk q (List.mem_of_mem_drop hq)
  | join i j =>
    obtain ⟨rfl, rfl, g, h', eg, eh, rfl⟩ := h
    have gm := List.mem_of_getElem? eg
    obtain ⟨ij, jl, _⟩ := dk
    have pl : (part (g.many + h'.many) g.lane g.fork).length ≤ 1 := by unfold part; split <;> simp
    refine ⟨⟨k.tl, k.tb, k.ol, fun q hq => ?_⟩, by rw [List.length_append, List.length_append, List.length_append, List.length_take, List.length_take, List.length_drop, List.length_drop]; lia⟩
    rcases in_app hq with hq | hq
    · rcases in_app hq with hq | hq
      · rcases in_app hq with hq | hq
        · exact k.gk q (List.mem_of_mem_take hq)
        · rw [part_mem hq]; exact k.gk g gm
      · exact k.gk q (List.mem_of_mem_drop (List.mem_of_mem_take hq))
    · exact k.gk q (List.mem_of_mem_drop hq)
end Bn
end
section
set_option maxHeartbeats 4000001
namespace K20
open PySem L2 Own Bn
abbrev sDone : Stmt := top 18
def spDone : Sp := fun vs H Q _ => ∃ r fr er ps N sc tr gr ou qs ts gs os t dd, vs = [.ref r, .ref sc, .ref t] ∧ Nt.Ok N ∧ NetAt H r fr er ps N ∧ SceneAt H sc tr gr ou qs ts gs os ∧ ScOk N ts gs os ∧ gs.length ≤ 900 ∧ DeedAt H t dd ∧ DeedOk N gs dd ∧
  ∀ sc' tr' gr' ou' qs' ts' gs' os' H', DoTo N ts gs os ts' gs' os' dd → Same H H' → SceneAt H' sc' tr' gr' ou' qs' ts' gs' os' → Q (.ref sc') H'
theorem dw_ne : ¬ (V.str "step" = V.str "put") ∧ ¬ (V.str "join" = V.str "put") ∧ ¬ (V.str "join" = V.str "step") := ⟨fun y => absurd (V.str.inj y) (by decide +kernel), fun y => absurd (V.str.inj y) (by decide +kernel), fun y => absurd (V.str.inj y) (by decide +kernel)⟩
section
variable {P : Program} {w : World} {K : PySem.W.Frag} {mg : Str → Option Value} {base : Heap}
theorem scDn : FnScope ["net", "scene", "deed"] ["net", "scene", "deed"] (defScope sDone) := ⟨rfl, rfl, rfl, by decide +kernel, rfl, by decide +kernel, by decide +kernel⟩
theorem ok_done {f fD fP fS fJ : Addr} {fd dD dP dS dJ : FuncData} (F : Fun K "done" "done" sDone f fd) (G : Mgs mg) (UDe : Use P w K mg base "is_deed" ["net", "thing"] 4 (spDeed K) fD dD) (UPu : Use P w K mg base "put_behind" ["net", "scene", "lane", "many"] 2 spPutB fP dP) (USt : Use P w K mg base "stepped" ["net", "scene", "place"] 3 spStepped fS dS) (UJo : Use P w K mg base "joined" ["scene", "first", "second"] 1 spJoined fJ dJ) : FnOk P w K mg base CX0 5 f fd ["net", "scene", "deed"] spDone := by
  refine F.ok scDn (fun vs H Q E h => ?_) (fun cdv A outer s H vs Q E hr h => ?_)
  · obtain ⟨r, fr, er, ps, N, sc, tr, gr, ou, qs, ts, gs, os, t, dd, rfl, _⟩ := h
    rfl
  obtain ⟨r, fr, er, ps, N, sc, tr, gr, ou, qs, ts, gs, os, t, dd, rfl, ok, na, sa, sk, gl, da, dk, k⟩ := h
  have hr1 : Room 1 _ := hr.mono (by decide)
  have hr2 : Room 2 _ := hr.mono (by decide)
  have hr3 : Room 3 _ := hr.mono (by decide)
  refine ⟨_, (@pss_cons _ _ _ _ _ (@ps_if _ _ _ _ _ _ _ _ (@pt_not _ _ _ _ (@pt_truth _ _ _ (@pe_call _ _ _ _ _ _ _ _ _ _ _ _ _ _ _ _ UDe.ok hr (by rfl) UDe.m UDe.kp UDe.b .nil pass0 (@pa_cons _ _ _ _ _ (@pv _ 0 _ _ (by rfl) (by first | exact Or.inl rfl | exact Or.inr (Or.inl rfl) | exact Or.inr (Or.inr rfl)) (by decide) (by decide)) (@pa_cons _ _ _ _ _ (@pv _ 2 _ _ (by rfl) (by first | exact Or.inl rfl | exact Or.inr (Or.inl rfl) | exact Or.inr (Or.inr rfl)) (by decide) (by decide)) pa_nil (by rfl)) (by rfl)) (by decide) (by rfl) (by rfl)) (fun _ => rfl))) (@pss_one _ _ _ ps_dead) pss_nil) (@pss_cons _ _ _ _ _ (@ps_if _ _ _ _ _ _ _ _ (@pt_cmpR _ _ _ _ _ _ _ _ op_eq (@pe_ix _ _ _ _ _ _ _ ix_tup (@pv _ 2 _ _ (by rfl) (by first | exact Or.inl rfl | exact Or.inr (Or.inl rfl) | exact Or.inr (Or.inr rfl)) (by decide) (by decide)) pe_int (fun _ _ => rfl)) pe_str (nomark _)) (@pss_one _ _ _ (@ps_ret _ _ _ _ (@pe_call _ _ _ _ _ _ _ _ _ _ _ _ _ _ _ _ UPu.ok hr2 (by rfl) UPu.m UPu.kp UPu.b .nil pass0 (@pa_cons _ _ _ _ _ (@pv _ 0 _ _ (by rfl) (by first | exact Or.inl rfl | exact Or.inr (Or.inl rfl) | exact Or.inr (Or.inr rfl)) (by decide) (by decide)) (@pa_cons _ _ _ _ _ (@pv _ 1 _ _ (by rfl) (by first | exact Or.inl rfl | exact Or.inr (Or.inl rfl) | exact Or.inr (Or.inr rfl)) (by decide) (by decide)) (@pa_cons _ _ _ _ _ (@pe_ix _ _ _ _ _ _ _ ix_tup (@pv _ 2 _ _ (by rfl) (by first | exact Or.inl rfl | exact Or.inr (Or.inl rfl) | exact Or.inr (Or.inr rfl)) (by decide) (by decide)) pe_int (fun _ _ => rfl)) (@pa_cons _ _ _ _ _ (@pe_ix _ _ _ _ _ _ _ ix_tup (@pv _ 2 _ _ (by rfl) (by first | exact Or.inl rfl | exact Or.inr (Or.inl rfl) | exact Or.inr (Or.inr rfl)) (by decide) (by decide)) pe_int (fun _ _ => rfl)) pa_nil (by rfl)) (by rfl)) (by rfl)) (by rfl)) (by decide) (by rfl) (by rfl)))) pss_nil) (@pss_cons _ _ _ _ _ (@ps_if _ _ _ _ _ _ _ _ (@pt_cmpR _ _ _ _ _ _ _ _ op_eq (@pe_ix _ _ _ _ _ _ _ ix_tup (@pv _ 2 _ _ (by rfl) (by first | exact Or.inl rfl | exact Or.inr (Or.inl rfl) | exact Or.inr (Or.inr rfl)) (by decide) (by decide)) pe_int (fun _ _ => rfl)) pe_str (nomark _)) (@pss_one _ _ _ (@ps_ret _ _ _ _ (@pe_call _ _ _ _ _ _ _ _ _ _ _ _ _ _ _ _ USt.ok hr3 (by rfl) USt.m USt.kp USt.b .nil pass0 (@pa_cons _ _ _ _ _ (@pv _ 0 _ _ (by rfl) (by first | exact Or.inl rfl | exact Or.inr (Or.inl rfl) | exact Or.inr (Or.inr rfl)) (by decide) (by decide)) (@pa_cons _ _ _ _ _ (@pv _ 1 _ _ (by rfl) (by first | exact Or.inl rfl | exact Or.inr (Or.inl rfl) | exact Or.inr (Or.inr rfl)) (by decide) (by decide)) (@pa_cons _ _ _ _ _ (@pe_ix _ _ _ _ _ _ _ ix_tup (@pv _ 2 _ _ (by rfl) (by first | exact Or.inl rfl | exact Or.inr (Or.inl rfl) | exact Or.inr (Or.inr rfl)) (by decide) (by decide)) pe_int (fun _ _ => rfl)) pa_nil (by rfl)) (by rfl)) (by rfl)) (by decide) (by rfl) (by rfl)))) pss_nil) (@pss_one _ _ _ (@ps_ret _ _ _ _ (@pe_call _ _ _ _ _ _ _ _ _ _ _ _ _ _ _ _ UJo.ok hr1 (by rfl) UJo.m UJo.kp UJo.b .nil pass0 (@pa_cons _ _ _ _ _ (@pv _ 1 _ _ (by rfl) (by first | exact Or.inl rfl | exact Or.inr (Or.inl rfl) | exact Or.inr (Or.inr rfl)) (by decide) (by decide)) (@pa_cons _ _ _ _ _ (@pe_ix _ _ _ _ _ _ _ ix_tup (@pv _ 2 _ _ (by rfl) (by first | exact Or.inl rfl | exact Or.inr (Or.inl rfl) | exact Or.inr (Or.inr rfl)) (by decide) (by decide)) pe_int (fun _ _ => rfl)) (@pa_cons _ _ _ _ _ (@pe_ix _ _ _ _ _ _ _ ix_tup (@pv _ 2 _ _ (by rfl) (by first | exact Or.inl rfl | exact Or.inr (Or.inl rfl) | exact Or.inr (Or.inr rfl)) (by decide) (by decide)) pe_int (fun _ _ => rfl)) pa_nil (by rfl)) (by rfl)) (by rfl)) (by decide) (by rfl) (by rfl))))))), ?_⟩
  obtain ⟨w1, w2, w3⟩ := dw_ne
  cases dd with
  | put lane many =>
    obtain ⟨ll, m0, m1, m2⟩ := dk
    replace da : H t = some (.tup [.str "put", .int lane, .int many]) := da
    have ro := rowOf_tup da
    have dv : deedV H N.lanes (.ref t) = true := by
      unfold deedV
      rw [ro]
      show (if wordV "put" (.str "put") = true then belowV N.lanes (.int lane) && manyV (.int many) else wordV "join" (.str "put") && (fromV 0 (.int many) && lowV (.int lane) (.int many))) = true
      rw [if_pos (by decide)]
      show ((decide ((0 : Int) ≤ lane) && decide ((lane : Int) < N.lanes)) && (decide ((if many < 0 then -many else many) < 10 ^ 30) && !decide (many = 0))) = true
      rw [decide_eq_true (by lia), decide_eq_true (by lia), decide_eq_true (by split <;> lia), decide_eq_false m0]; rfl
    refine ⟨_, rfl, _, rfl, r, fr, er, ps, N, .ref t, rfl, na, ⟨_, .tup da, _, rfl⟩, fun xs hx y hy => ?_, ?_⟩
    · rw [ro] at hx
      obtain rfl := Option.some.inj hx
      simp only [List.mem_cons, List.mem_nil_iff, or_false] at hy
      rcases hy with rfl | rfl | rfl
      · exact ⟨_, .str _, _, rfl⟩
      · exact ⟨_, .int _, _, rfl⟩
      · exact ⟨_, .int _, _, rfl⟩
    rw [dv]
    refine ⟨true, rfl, iteF ?_⟩
    refine ⟨_, rfl, t, _, _, _, rfl, rfl, SqT.of da, rfl, rfl, _, rfl, ite2 (fun _ => ?_) (fun z => absurd (decide_eq_true rfl) z)⟩
    exact ⟨_, rfl, _, rfl, _, rfl, t, _, _, _, rfl, rfl, SqT.of da, rfl, _, rfl, t, _, _, _, rfl, rfl, SqT.of da, rfl, r, fr, er, ps, N, sc, tr, gr, ou, qs, ts, gs, os, lane, many, rfl, ok, na, sa, gl, fun kk sc' gr' qs' H' hk s' sa' => k _ _ _ _ _ _ _ _ _ ⟨rfl, rfl, kk, hk, rfl⟩ s' sa'⟩
  | step place =>
    replace da : H t = some (.tup [.str "step", .int place]) := da
    have ro := rowOf_tup da
    have dv : deedV H N.lanes (.ref t) = true := by
      unfold deedV
      rw [ro]
      show (wordV "step" (.str "step") && fromV 0 (.int place)) = true
      rw [show wordV "step" (.str "step") = true by decide]
      rw [Bool.true_and]
      exact decide_eq_true (show (0 : Int) ≤ (place : Int) from Int.natCast_nonneg _)
    refine ⟨_, rfl, _, rfl, r, fr, er, ps, N, .ref t, rfl, na, ⟨_, .tup da, _, rfl⟩, fun xs hx y hy => ?_, ?_⟩
    · rw [ro] at hx
      obtain rfl := Option.some.inj hx
      simp only [List.mem_cons, List.mem_nil_iff, or_false] at hy
      rcases hy with rfl | rfl
      · exact ⟨_, .str _, _, rfl⟩
      · exact ⟨_, .int _, _, rfl⟩
    rw [dv]
    refine ⟨true, rfl, iteF ?_⟩
    refine ⟨_, rfl, t, _, _, _, rfl, rfl, SqT.of da, rfl, rfl, _, rfl, ?_⟩
    rw [show decide (V.str "step" = V.str "put") = false from decide_eq_false w1]
    refine iteF ⟨_, rfl, t, _, _, _, rfl, rfl, SqT.of da, rfl, rfl, _, rfl, ?_⟩
    rw [show decide (V.str "step" = V.str "step") = true from decide_eq_true rfl]
    refine iteT ⟨_, rfl, _, rfl, _, rfl, t, _, _, _, rfl, rfl, SqT.of da, rfl, r, fr, er, ps, N, sc, tr, gr, ou, qs, ts, gs, os, place, rfl, ok, na, sa, dk, gl, sk.tl, sk.ol, sk.gk, fun sc' tr' gr' ou' qs' ts' gs' os' H' st s' sa' => k _ _ _ _ _ _ _ _ _ st s' sa'⟩
  | join i j =>
    obtain ⟨ij, jl, al⟩ := dk
    replace da : H t = some (.tup [.str "join", .int i, .int j]) := da
    have ro := rowOf_tup da
    have dv : deedV H N.lanes (.ref t) = true := by
      unfold deedV
      rw [ro]
      show (if wordV "put" (.str "join") = true then belowV N.lanes (.int i) && manyV (.int j) else wordV "join" (.str "join") && (fromV 0 (.int j) && lowV (.int i) (.int j))) = true
      rw [if_neg (by decide), show wordV "join" (.str "join") = true by decide]
      show (decide ((0 : Int) ≤ j) && (decide ((0 : Int) ≤ i) && decide ((i : Int) < j))) = true
      rw [decide_eq_true (by lia), decide_eq_true (by lia), decide_eq_true (by lia)]; rfl
    refine ⟨_, rfl, _, rfl, r, fr, er, ps, N, .ref t, rfl, na, ⟨_, .tup da, _, rfl⟩, fun xs hx y hy => ?_, ?_⟩
    · rw [ro] at hx
      obtain rfl := Option.some.inj hx
      simp only [List.mem_cons, List.mem_nil_iff, or_false] at hy
      rcases hy with rfl | rfl | rfl
      · exact ⟨_, .str _, _, rfl⟩
      · exact ⟨_, .int _, _, rfl⟩
      · exact ⟨_, .int _, _, rfl⟩
    rw [dv]
    refine ⟨true, rfl, iteF ?_⟩
    refine ⟨_, rfl, t, _, _, _, rfl, rfl, SqT.of da, rfl, rfl, _, rfl, ?_⟩
    rw [show decide (V.str "join" = V.str "put") = false from decide_eq_false w2]
    refine iteF ⟨_, rfl, t, _, _, _, rfl, rfl, SqT.of da, rfl, rfl, _, rfl, ?_⟩
    rw [show decide (V.str "join" = V.str "step") = false from decide_eq_false w3]
    exact iteF ⟨_, rfl, _, rfl, t, _, _, _, rfl, rfl, SqT.of da, rfl, _, rfl, t, _, _, _, rfl, rfl, SqT.of da, rfl, sc, tr, gr, ou, qs, ts, gs, os, i, j, rfl, sa, ij, jl, gl, al, fun sc' gr' qs' gs' H' jt s' sa' => k _ _ _ _ _ _ _ _ _ ⟨rfl, rfl, jt⟩ s' sa'⟩
end
end K20
end
section
set_option maxHeartbeats 4000001
namespace Bn
open PySem L2 Own
theorem at_end {ps : List V} {x : V} (h : ps[ps.length - 1]? = some x) : atI ps (-1) = some x := by
  have ne : ps ≠ [] := by rintro rfl; simp at h
  have g : ps.getLast ne = x := by rw [List.getLast_eq_getElem]; exact (List.getElem?_eq_some_iff.mp h).2
  have e : ps = ps.dropLast ++ [x] := by rw [← g]; exact (List.dropLast_concat_getLast ne).symm
  rw [e]; exact atI_last _ _
theorem nums_perm' {ys zs : List V} (h : ys.Perm zs) : ∀ l : List Nat, zs = nums l → ∃ es : List Nat, ys = nums es ∧ es.Perm l := by
  induction h with
  | nil => intro l e; cases l with
    | nil => exact ⟨[], rfl, .nil⟩
    | cons a b => cases e
  | cons x _ ih => intro l e; cases l with
    | nil => cases e
    | cons a b =>
      have e' : x = .int a ∧ _ = nums b := List.cons.inj e
      obtain ⟨es, e1, p1⟩ := ih b e'.2
      exact ⟨a :: es, by rw [e'.1, e1]; rfl, p1.cons a⟩
  | swap x y t => intro l e; match l, e with
    | [], e => cases e
    | [_], e => cases (List.cons.inj e).2
    | a :: b :: c, e =>
      have e1 : x = .int a ∧ y :: t = nums (b :: c) := List.cons.inj e
      have e2 : y = .int b ∧ t = nums c := List.cons.inj e1.2
      exact ⟨b :: a :: c, by rw [e1.1, e2.1, e2.2]; rfl, .swap a b c⟩
  | trans _ _ i1 i2 => intro l e
                       obtain ⟨m, e1, p1⟩ := i2 l e
                       obtain ⟨n, e2, p2⟩ := i1 m e1
                       exact ⟨n, e2, p2.trans p1⟩
theorem nums_perm {ys : List V} {l : List Nat} (h : ys.Perm (nums l)) : ∃ es : List Nat, ys = nums es ∧ es.Perm l := nums_perm' h l rfl
theorem erase_perm {α : Type} : ∀ (xs : List α) (k : Nat) (h : k < xs.length), (xs[k] :: xs.eraseIdx k).Perm xs
  | x :: xs, 0, _ => .refl _
  | x :: xs, k + 1, h => by
    have hk : k < xs.length := by simpa using h
    have ih := erase_perm xs k hk
    exact (List.Perm.swap x xs[k] _).trans (ih.cons x)
end Bn
end
section
set_option maxHeartbeats 4000001
namespace K20
open PySem L2 Own Bn
abbrev sOf : Stmt := top 31
abbrev sPlaced : Stmt := top 32
abbrev sNet : Stmt := top 33
def spOf : Sp := fun vs H Q _ => ∃ (l q : Addr) (xs : List V), vs = [.ref l, .ref q] ∧ PkAt H l ∧ q ≠ l ∧ H q = some (.lst xs) ∧ 0 < xs.length ∧ xs.length ≤ 100000 ∧ ∀ (i : Nat) x H', xs[i]? = some x → PkAt H' l → But l H H' → Q x H'
def spPlaced : Sp := fun vs H Q _ => ∃ (l q : Addr) (xs : List V), vs = [.ref l, .ref q] ∧ PkAt H l ∧ q ≠ l ∧ H q = some (.lst xs) ∧ xs.length ≤ 1000 ∧ ∀ r ys H', ys.Perm xs → H r = none → H' r = some (.lst ys) → PkAt H' l → But l H H' → Q (.ref r) H'
def spNetL (most : Nat) : Sp := fun vs H Q _ => ∃ (l : Addr) (lanes : Nat), vs = [.ref l, .int lanes, .int most] ∧ PkAt H l ∧ 1 ≤ lanes ∧ lanes ≤ 16 ∧ ∀ r fr er ps N H', Nt.Ok N → N.lanes = lanes → N.forks.length ≤ most → NetAt H' r fr er ps N → PkAt H' l → But l H H' → Q (.ref r) H'
section
variable {P : Program} {w : World} {K : PySem.W.Frag} {mg : Str → Option Value} {base : Heap}
theorem scOf : FnScope ["_law_left_here", "_law_some"] ["_law_left_here", "_law_some"] (defScope sOf) := ⟨rfl, rfl, rfl, by decide +kernel, rfl, by decide +kernel, by decide +kernel⟩
theorem ok_of {f fK : Addr} {fd dK : FuncData} (F : Fun K "_law_of" "_law_of" sOf f fd) (G : Mgs mg) (UK : Use P w K mg base "_law_pick" ["_law_left_here", "_law_many_here"] 1 spPick fK dK) : FnOk P w K mg base CX0 2 f fd ["_law_left_here", "_law_some"] spOf := by
  refine F.ok scOf (fun vs H Q E h => ?_) (fun cdv A outer s H vs Q E hr h => ?_)
  · obtain ⟨l, q, xs, rfl, _⟩ := h
    rfl
  obtain ⟨l, q, xs, rfl, S, ne, hq, x0, xm, k⟩ := h
  refine ⟨_, (@pss_one _ _ _ (@ps_ret _ _ _ _ (@pe_ix _ _ _ _ _ _ _ ix_list (@pv _ 1 _ _ (by rfl) (by first | exact Or.inl rfl | exact Or.inr (Or.inl rfl) | exact Or.inr (Or.inr rfl)) (by decide) (by decide)) (@pe_call _ _ _ _ _ _ _ _ _ _ _ _ _ _ _ _ UK.ok hr (by rfl) UK.m UK.kp UK.b .nil pass0 (@pa_cons _ _ _ _ _ (@pv _ 0 _ _ (by rfl) (by first | exact Or.inl rfl | exact Or.inr (Or.inl rfl) | exact Or.inr (Or.inr rfl)) (by decide) (by decide)) (@pa_cons _ _ _ _ _ (@pe_callB _ _ _ _ _ _ _ _ _ call_len_seq (by rfl) G.len PySem.boot_len (@pa_cons _ _ _ _ _ (@pv _ 1 _ _ (by rfl) (by first | exact Or.inl rfl | exact Or.inr (Or.inl rfl) | exact Or.inr (Or.inr rfl)) (by decide) (by decide)) pa_nil (by rfl)) (by decide) (by decide) (by rfl) (by rfl)) pa_nil (by rfl)) (by rfl)) (by decide) (by rfl) (by rfl)) (fun _ _ => rfl)))), ?_⟩
  refine ⟨_, rfl, _, rfl, _, rfl, q, _, rfl, .inl (SqL.of hq), l, _, rfl, by lia, by lia, S, fun v H1 hv S1 B1 => ?_⟩
  have vl : v < xs.length := by lia
  exact ⟨q, _, _, _, rfl, rfl, SqL.of (B1 q _ hq ne), atI_nat (List.getElem?_eq_getElem vl), k v _ H1 (List.getElem?_eq_getElem vl) S1 B1⟩
theorem scPl : FnScope ["_law_left_here", "_law_some", "_law_found"] ["_law_left_here", "_law_some"] (defScope sPlaced) := ⟨rfl, rfl, rfl, by decide +kernel, rfl, by decide +kernel, by decide +kernel⟩
theorem ok_placed {f fK : Addr} {fd dK : FuncData} (F : Fun K "_law_placed" "_law_placed" sPlaced f fd) (G : Mgs mg) (UK : Use P w K mg base "_law_pick" ["_law_left_here", "_law_many_here"] 1 spPick fK dK) : FnOk P w K mg base CX0 2 f fd ["_law_left_here", "_law_some"] spPlaced := by
  refine F.ok scPl (fun vs H Q E h => ?_) (fun cdv A outer s H vs Q E hr h => ?_)
  · obtain ⟨l, q, xs, rfl, _⟩ := h
    rfl
  obtain ⟨l, q, xs, rfl, S, ne, hq, xm, k⟩ := h
  refine ⟨_, (@pss_cons _ _ _ _ _ (@ps_set _ _ 1 _ _ _ _ scPl.nd rfl (Or.inl rfl) (@pe_callTy _ _ _ _ _ _ _ _ _ call_list_of (by rfl) G.list (by rfl) (@pa_cons _ _ _ _ _ (@pv _ 1 _ _ (by rfl) (by first | exact Or.inl rfl | exact Or.inr (Or.inl rfl) | exact Or.inr (Or.inr rfl)) (by decide) (by decide)) pa_nil (by rfl)) (by decide) (by decide) (by rfl) (by rfl)) (by rfl) (by first | exact .inl rfl | exact .inr rfl | assumption)) (@pss_cons _ _ _ _ _ (@ps_set _ _ 2 _ _ _ _ scPl.nd rfl (Or.inl rfl) (@pe_lst _ _ _ _ pa_nil) (by rfl) (by first | exact .inl rfl | exact .inr rfl | assumption)) (@pss_cons _ _ _ _ _ (@ps_while _ _ _ _ _ _ PassesOwn.never (@pt_cmpR _ _ _ _ _ _ _ _ (op_neE hr.units0) (@pv _ 1 _ _ (by rfl) (by first | exact Or.inl rfl | exact Or.inr (Or.inl rfl) | exact Or.inr (Or.inr rfl)) (by decide) (by decide)) (@pe_lst _ _ _ _ pa_nil) (nomark _)) (@pss_one _ _ _ (@ps_expr _ _ _ _ (@pe_bm _ _ _ _ _ _ _ _ _ _ _ _ PySem.F.plainAttrs_list PySem.F.slot_list_append PySem.F.type_list_append mt_append (@pv _ 2 _ _ (by rfl) (by first | exact Or.inl rfl | exact Or.inr (Or.inl rfl) | exact Or.inr (Or.inr rfl)) (by decide) (by decide)) (@pa_cons _ _ _ _ _ (@pe_bm _ _ _ _ _ _ _ _ _ _ _ _ PySem.F.plainAttrs_list PySem.F.slot_list_pop PySem.F.type_list_pop mt_popAt (@pv _ 1 _ _ (by rfl) (by first | exact Or.inl rfl | exact Or.inr (Or.inl rfl) | exact Or.inr (Or.inr rfl)) (by decide) (by decide)) (@pa_cons _ _ _ _ _ (@pe_call _ _ _ _ _ _ _ _ _ _ _ _ _ _ _ _ UK.ok hr (by rfl) UK.m UK.kp UK.b .nil pass0 (@pa_cons _ _ _ _ _ (@pv _ 0 _ _ (by rfl) (by first | exact Or.inl rfl | exact Or.inr (Or.inl rfl) | exact Or.inr (Or.inr rfl)) (by decide) (by decide)) (@pa_cons _ _ _ _ _ (@pe_callB _ _ _ _ _ _ _ _ _ call_len_seq (by rfl) G.len PySem.boot_len (@pa_cons _ _ _ _ _ (@pv _ 1 _ _ (by rfl) (by first | exact Or.inl rfl | exact Or.inr (Or.inl rfl) | exact Or.inr (Or.inr rfl)) (by decide) (by decide)) pa_nil (by rfl)) (by decide) (by decide) (by rfl) (by rfl)) pa_nil (by rfl)) (by rfl)) (by decide) (by rfl) (by rfl)) pa_nil (by rfl)) (by rfl) (by rfl) (by rfl) (by rfl) (by rfl)) pa_nil (by rfl)) (by rfl) (by rfl) (by rfl) (by rfl) (by rfl)) (by rfl)))) (@pss_one _ _ _ (@ps_ret _ _ _ _ (@pv _ 2 _ _ (by rfl) (by first | exact Or.inl rfl | exact Or.inr (Or.inl rfl) | exact Or.inr (Or.inr rfl)) (by decide) (by decide))))))), ?_⟩
  refine ⟨_, rfl, q, _, rfl, .inl (SqL.of hq), fun lo hlo => ?_⟩
  have s1 := same_new hlo (.lst xs)
  have nlo := S.ne hlo
  refine ⟨(by show 0 ≤ sizeLine; decide), fun lt hlt => ?_⟩
  have s2 := same_new hlt (.lst [])
  have nlt := (S.keep s1).ne hlt
  have not : lo ≠ lt := ne_of_none upd_same hlt
  have flo : Frs l H lo := fun b o e _ => ne_of_none e hlo
  have flt : Frs l H lt := fun b o e _ => ne_of_none (s1 _ _ e) hlt
  have hlt0 : H lt = none := by
    cases z : H lt with
    | none => rfl
    | some o => rw [s1 _ _ z] at hlt; cases hlt
  refine ⟨fun m σ H3 => σ = [some (.ref l), some (.ref lo), some (.ref lt)] ∧ PkAt H3 l ∧ But l H H3 ∧ ∃ us ys, H3 lo = some (.lst us) ∧ us.length = m ∧ H3 lt = some (.lst ys) ∧ (ys ++ us).Perm xs,
    ⟨_, rfl, (S.keep s1).keep s2, (But.of s1).trans (But.of s2), xs, [], by rw [upd_ne not]; exact upd_same, rfl, upd_same, .refl _⟩, ?_⟩
  rintro m σ H3 ⟨rfl, S3, B3, us, ys, hu, ul, hy, pm⟩
  refine ⟨_, rfl, (by show 0 ≤ sizeLine; decide), fun e he => ?_⟩
  have s4 := same_new he (.lst [])
  refine ⟨lo, e, us, rfl, rfl, SqL.of (s4 _ _ hu), SqL.of upd_same, _, rfl, ?_⟩
  have S4 := S3.keep s4
  have B4 : But l H (L2.upd H3 e (.lst [])) := B3.trans (But.of s4)
  have hu4 := s4 _ _ hu
  have hy4 := s4 _ _ hy
  generalize L2.upd H3 e (.lst []) = H4 at *
  have tot : ys.length + us.length = xs.length := by rw [← List.length_append]; exact pm.length_eq
  by_cases un : us = []
  · rw [show (!us.isEmpty) = false by rw [un]; rfl]
    refine iteF ⟨_, rfl, k lt ys H4 ?_ hlt0 hy4 S4 B4⟩
    rw [un, List.append_nil] at pm; exact pm
  have up : 0 < us.length := List.length_pos_iff.mpr un
  rw [show (!us.isEmpty) = true by cases us with
    | nil => exact absurd rfl un
    | cons a b => rfl]
  refine iteT ⟨_, fun σ' H' hN => ⟨m - 1, by lia, hN⟩, ?_⟩
  refine ⟨_, rfl, .inl ⟨rfl, _, SqL.of hy4⟩, _, rfl, .inl ⟨rfl, _, SqL.of hu4⟩, _, rfl, _, rfl, lo, _, rfl, .inl (SqL.of hu4), l, _, rfl, by lia, by lia, S4, fun kk H5 hk S5 B5 => ?_⟩
  have kl : kk < us.length := by lia
  have hu5 := B5 lo _ hu4 nlo.symm
  have hy5 := B5 lt _ hy4 nlt.symm
  refine ⟨lo, _, _, kk, us[kk], rfl, rfl, hu5, by lia, by lia, (ixN_seq (ix_at (xs := us) (i := kk) kl)).1, List.getElem?_eq_getElem kl, ?_⟩
  have hy6 : upd H5 lo (.lst (us.eraseIdx kk)) lt = some (.lst ys) := by rw [upd_ne not.symm]; exact hy5
  refine ⟨lt, _, _, rfl, rfl, hy6, Nat.lt_of_lt_of_le (show ys.length < 1001 by lia) (by decide), rfl, (S5.upd nlo).upd nlt, ((B4.trans B5).upd flo).upd flt, us.eraseIdx kk, ys ++ [us[kk]], by rw [upd_ne not]; exact upd_same, by rw [List.length_eraseIdx, if_pos kl]; lia, upd_same, ?_⟩
  refine List.Perm.trans ?_ pm
  rw [List.append_assoc]
  refine List.Perm.append_left ys ?_
  exact erase_perm us kk kl
theorem scN : FnScope ["_law_left_here", "_law_lanes", "_law_most", "_law_forks", "_law_k", "_law_a", "_law_b", "_law_ends"] ["_law_left_here", "_law_lanes", "_law_most"] (defScope sNet) := ⟨rfl, rfl, rfl, by decide +kernel, rfl, by decide +kernel, by decide +kernel⟩
theorem ok_net {f fK fO fP : Addr} {fd dK dO dP : FuncData} (most : Nat) (hmost : most ≤ 100) (F : Fun K "_law_net" "_law_net" sNet f fd) (G : Mgs mg) (UK : Use P w K mg base "_law_pick" ["_law_left_here", "_law_many_here"] 1 spPick fK dK) (UO : Use P w K mg base "_law_of" ["_law_left_here", "_law_some"] 2 spOf fO dO) (UP : Use P w K mg base "_law_placed" ["_law_left_here", "_law_some"] 2 spPlaced fP dP) : FnOk P w K mg base CX0 3 f fd ["_law_left_here", "_law_lanes", "_law_most"] (spNetL most) := by
  refine F.ok scN (fun vs H Q E h => ?_) (fun cdv A outer s H vs Q E hr h => ?_)
  · obtain ⟨l, lanes, rfl, _⟩ := h
    rfl
  obtain ⟨l, lanes, rfl, S, l1, l16, k⟩ := h
  have hr1 : Room 1 _ := hr.mono (by decide)
  refine ⟨_, (@pss_cons _ _ _ _ _ (@ps_set _ _ 3 _ _ _ _ scN.nd rfl (Or.inl rfl) (@pe_lst _ _ _ _ pa_nil) (by rfl) (by first | exact .inl rfl | exact .inr rfl | assumption)) (@pss_cons _ _ _ _ _ (@ps_for _ _ _ _ _ _ _ _ PassesOwn.never rfl (@pi_range1 _ _ _ _ _ _ rfl G.range (@pa_cons _ _ _ _ _ (@pe_op _ _ _ _ _ _ _ _ op_mul (@pe_call _ _ _ _ _ _ _ _ _ _ _ _ _ _ _ _ UK.ok hr1 (by rfl) UK.m UK.kp UK.b .nil pass0 (@pa_cons _ _ _ _ _ (@pv _ 0 _ _ (by rfl) (by first | exact Or.inl rfl | exact Or.inr (Or.inl rfl) | exact Or.inr (Or.inr rfl)) (by decide) (by decide)) (@pa_cons _ _ _ _ _ (@pe_op _ _ _ _ _ _ _ _ op_add (@pv _ 2 _ _ (by rfl) (by first | exact Or.inl rfl | exact Or.inr (Or.inl rfl) | exact Or.inr (Or.inr rfl)) (by decide) (by decide)) pe_int) pa_nil (by rfl)) (by rfl)) (by decide) (by rfl) (by rfl)) (@pe_callTy _ _ _ _ _ _ _ _ _ call_int1 (by rfl) G.int (by rfl) (@pa_cons _ _ _ _ _ (@pe_cmpR _ _ _ _ _ _ _ _ op_gt (@pv _ 1 _ _ (by rfl) (by first | exact Or.inl rfl | exact Or.inr (Or.inl rfl) | exact Or.inr (Or.inr rfl)) (by decide) (by decide)) pe_int (nomark _)) pa_nil (by rfl)) (by decide) (by decide) (by rfl) (by rfl))) pa_nil (by rfl)) (by rfl)) (@pg_name _ _ 4 _ scN.nd rfl (Or.inl rfl) (by first | exact .inl rfl | exact .inr rfl | assumption)) (@pss_cons _ _ _ _ _ (@ps_set _ _ 5 _ _ _ _ scN.nd rfl (Or.inl rfl) (@pe_call _ _ _ _ _ _ _ _ _ _ _ _ _ _ _ _ UK.ok hr1 (by rfl) UK.m UK.kp UK.b .nil pass0 (@pa_cons _ _ _ _ _ (@pv _ 0 _ _ (by rfl) (by first | exact Or.inl rfl | exact Or.inr (Or.inl rfl) | exact Or.inr (Or.inr rfl)) (by decide) (by decide)) (@pa_cons _ _ _ _ _ (@pv _ 1 _ _ (by rfl) (by first | exact Or.inl rfl | exact Or.inr (Or.inl rfl) | exact Or.inr (Or.inr rfl)) (by decide) (by decide)) pa_nil (by rfl)) (by rfl)) (by decide) (by rfl) (by rfl)) (by rfl) (by first | exact .inl rfl | exact .inr rfl | assumption)) (@pss_cons _ _ _ _ _ (@ps_set _ _ 6 _ _ _ _ scN.nd rfl (Or.inl rfl) (@pe_op _ _ _ _ _ _ _ _ op_mod (@pe_op _ _ _ _ _ _ _ _ op_add (@pe_op _ _ _ _ _ _ _ _ op_add (@pv _ 5 _ _ (by rfl) (by first | exact Or.inl rfl | exact Or.inr (Or.inl rfl) | exact Or.inr (Or.inr rfl)) (by decide) (by decide)) pe_int) (@pe_call _ _ _ _ _ _ _ _ _ _ _ _ _ _ _ _ UK.ok hr1 (by rfl) UK.m UK.kp UK.b .nil pass0 (@pa_cons _ _ _ _ _ (@pv _ 0 _ _ (by rfl) (by first | exact Or.inl rfl | exact Or.inr (Or.inl rfl) | exact Or.inr (Or.inr rfl)) (by decide) (by decide)) (@pa_cons _ _ _ _ _ (@pe_op _ _ _ _ _ _ _ _ op_sub (@pv _ 1 _ _ (by rfl) (by first | exact Or.inl rfl | exact Or.inr (Or.inl rfl) | exact Or.inr (Or.inr rfl)) (by decide) (by decide)) pe_int) pa_nil (by rfl)) (by rfl)) (by decide) (by rfl) (by rfl))) (@pv _ 1 _ _ (by rfl) (by first | exact Or.inl rfl | exact Or.inr (Or.inl rfl) | exact Or.inr (Or.inr rfl)) (by decide) (by decide))) (by rfl) (by first | exact .inl rfl | exact .inr rfl | assumption)) (@pss_cons _ _ _ _ _ (@ps_if _ _ _ _ _ _ _ _ (@pw_and _ _ _ _ _ _ _ (@pt_cmpR _ _ _ _ _ _ _ _ (op_neE hr.units0) (@pv _ 3 _ _ (by rfl) (by first | exact Or.inl rfl | exact Or.inr (Or.inl rfl) | exact Or.inr (Or.inr rfl)) (by decide) (by decide)) (@pe_lst _ _ _ _ pa_nil) (nomark _)) (@pw_and1 _ _ _ _ (@pt_cmpR _ _ _ _ _ _ _ _ op_eq (@pe_call _ _ _ _ _ _ _ _ _ _ _ _ _ _ _ _ UK.ok hr1 (by rfl) UK.m UK.kp UK.b .nil pass0 (@pa_cons _ _ _ _ _ (@pv _ 0 _ _ (by rfl) (by first | exact Or.inl rfl | exact Or.inr (Or.inl rfl) | exact Or.inr (Or.inr rfl)) (by decide) (by decide)) (@pa_cons _ _ _ _ _ pe_int pa_nil (by rfl)) (by rfl)) (by decide) (by rfl) (by rfl)) pe_int (nomark _)))).pt (@pss_one _ _ _ (@ps_asg _ _ _ _ _ _ (@pe_turn _ _ _ _ _ _ _ (@pe_ix _ _ _ _ _ _ _ ix_list (@pv _ 3 _ _ (by rfl) (by first | exact Or.inl rfl | exact Or.inr (Or.inl rfl) | exact Or.inr (Or.inr rfl)) (by decide) (by decide)) (@pe_un _ _ _ _ _ _ un_neg pe_int) (fun _ _ => rfl)) (@po_some _ _ _ (@pe_call _ _ _ _ _ _ _ _ _ _ _ _ _ _ _ _ UO.ok hr (by rfl) UO.m UO.kp UO.b .nil pass0 (@pa_cons _ _ _ _ _ (@pv _ 0 _ _ (by rfl) (by first | exact Or.inl rfl | exact Or.inr (Or.inl rfl) | exact Or.inr (Or.inr rfl)) (by decide) (by decide)) (@pa_cons _ _ _ _ _ (@pe_lst _ _ _ _ (@pa_cons _ _ _ _ _ pe_int (@pa_cons _ _ _ _ _ (@pe_un _ _ _ _ _ _ un_neg pe_int) pa_nil (by rfl)) (by rfl))) pa_nil (by rfl)) (by rfl)) (by decide) (by rfl) (by rfl)))) (@pg_tup _ _ _ _ _ _ rfl (@pgs_cons _ _ _ _ _ (@pg_name _ _ 5 _ scN.nd rfl (Or.inl rfl) (by first | exact .inl rfl | exact .inr rfl | assumption)) (@pgs_cons _ _ _ _ _ (@pg_name _ _ 6 _ scN.nd rfl (Or.inl rfl) (by first | exact .inl rfl | exact .inr rfl | assumption)) pgs_nil (by rfl)) (by rfl)) (by rfl) (by rfl)) (by rfl) (by rfl) (by rfl))) pss_nil) (@pss_one _ _ _ (@ps_expr _ _ _ _ (@pe_bm _ _ _ _ _ _ _ _ _ _ _ _ PySem.F.plainAttrs_list PySem.F.slot_list_append PySem.F.type_list_append mt_append (@pv _ 3 _ _ (by rfl) (by first | exact Or.inl rfl | exact Or.inr (Or.inl rfl) | exact Or.inr (Or.inr rfl)) (by decide) (by decide)) (@pa_cons _ _ _ _ _ (@pe_tup _ _ _ _ _ (@pa_cons _ _ _ _ _ (@pv _ 5 _ _ (by rfl) (by first | exact Or.inl rfl | exact Or.inr (Or.inl rfl) | exact Or.inr (Or.inr rfl)) (by decide) (by decide)) (@pa_cons _ _ _ _ _ (@pv _ 6 _ _ (by rfl) (by first | exact Or.inl rfl | exact Or.inr (Or.inl rfl) | exact Or.inr (Or.inr rfl)) (by decide) (by decide)) pa_nil (by rfl)) (by rfl))) pa_nil (by rfl)) (by rfl) (by rfl) (by rfl) (by rfl) (by rfl)) (by rfl)))))) (by intro _; rfl)) (@pss_cons _ _ _ _ _ (@ps_set _ _ 7 _ _ _ _ scN.nd rfl (Or.inl rfl) (@pe_lstRng _ _ _ _ _ _ _ rfl (by rfl) G.list (by rfl) G.range (@pa_cons _ _ _ _ _ (@pv _ 1 _ _ (by rfl) (by first | exact Or.inl rfl | exact Or.inr (Or.inl rfl) | exact Or.inr (Or.inr rfl)) (by decide) (by decide)) pa_nil (by rfl)) (by rfl) (by rfl)) (by rfl) (by first | exact .inl rfl | exact .inr rfl | assumption)) (@pss_cons _ _ _ _ _ (@ps_if _ _ _ _ _ _ _ _ (@pt_cmpR _ _ _ _ _ _ _ _ op_eq (@pe_call _ _ _ _ _ _ _ _ _ _ _ _ _ _ _ _ UK.ok hr1 (by rfl) UK.m UK.kp UK.b .nil pass0 (@pa_cons _ _ _ _ _ (@pv _ 0 _ _ (by rfl) (by first | exact Or.inl rfl | exact Or.inr (Or.inl rfl) | exact Or.inr (Or.inr rfl)) (by decide) (by decide)) (@pa_cons _ _ _ _ _ pe_int pa_nil (by rfl)) (by rfl)) (by decide) (by rfl) (by rfl)) pe_int (nomark _)) (@pss_one _ _ _ (@ps_set _ _ 7 _ _ _ _ scN.nd rfl (Or.inl rfl) (@pe_call _ _ _ _ _ _ _ _ _ _ _ _ _ _ _ _ UP.ok hr (by rfl) UP.m UP.kp UP.b .nil pass0 (@pa_cons _ _ _ _ _ (@pv _ 0 _ _ (by rfl) (by first | exact Or.inl rfl | exact Or.inr (Or.inl rfl) | exact Or.inr (Or.inr rfl)) (by decide) (by decide)) (@pa_cons _ _ _ _ _ (@pv _ 7 _ _ (by rfl) (by first | exact Or.inl rfl | exact Or.inr (Or.inl rfl) | exact Or.inr (Or.inr rfl)) (by decide) (by decide)) pa_nil (by rfl)) (by rfl)) (by decide) (by rfl) (by rfl)) (by rfl) (by first | exact .inl rfl | exact .inr rfl | assumption))) pss_nil) (@pss_one _ _ _ (@ps_ret _ _ _ _ (@pe_tup _ _ _ _ _ (@pa_cons _ _ _ _ _ (@pv _ 1 _ _ (by rfl) (by first | exact Or.inl rfl | exact Or.inr (Or.inl rfl) | exact Or.inr (Or.inr rfl)) (by decide) (by decide)) (@pa_cons _ _ _ _ _ (@pe_callTy _ _ _ _ _ _ _ _ _ call_tuple_of (by rfl) G.tuple (by rfl) (@pa_cons _ _ _ _ _ (@pv _ 3 _ _ (by rfl) (by first | exact Or.inl rfl | exact Or.inr (Or.inl rfl) | exact Or.inr (Or.inr rfl)) (by decide) (by decide)) pa_nil (by rfl)) (by decide) (by decide) (by rfl) (by rfl)) (@pa_cons _ _ _ _ _ (@pe_callTy _ _ _ _ _ _ _ _ _ call_tuple_of (by rfl) G.tuple (by rfl) (@pa_cons _ _ _ _ _ (@pv _ 7 _ _ (by rfl) (by first | exact Or.inl rfl | exact Or.inr (Or.inl rfl) | exact Or.inr (Or.inr rfl)) (by decide) (by decide)) pa_nil (by rfl)) (by decide) (by decide) (by rfl) (by rfl)) pa_nil (by rfl)) (by rfl)) (by rfl))))))))), ?_⟩
  refine ⟨(by show 0 ≤ sizeLine; decide), fun lf hlf => ?_⟩
  have nlf := S.ne hlf
  have B0 : But l H (L2.upd H lf (.lst [])) := But.of (same_new hlf _)
  have flf : Frs l H lf := fun b o e _ => ne_of_none e hlf
  refine ⟨_, rfl, _, rfl, _, _, rfl, rfl, l, _, rfl, by lia, by lia, S.upd nlf, fun kv H1 hkv S1 B1 => ?_⟩
  refine ⟨_, rfl, _, _, rfl, rfl, .inr ⟨_, rfl, _, _, rfl, rfl, .inl ⟨by lia, by lia⟩, ?_⟩⟩
  have cb : ((kv : Int) * (if decide ((1 : Int) < lanes) = true then 1 else 0)) = ((if 1 < lanes then kv else 0 : Nat) : Int) := by
    by_cases z : 1 < lanes
    · rw [if_pos (decide_eq_true (by lia)), if_pos z]; lia
    · rw [if_neg (by rw [decide_eq_false (by lia)]; exact Bool.false_ne_true), if_neg z]; lia
  have cl : (if 1 < lanes then kv else 0) ≤ most := by split <;> lia
  refine ⟨_, rfl, by rw [cb]; lia, by rw [cb]; lia, ?_⟩
  rw [cb]
  generalize hcnt : (if 1 < lanes then kv else 0) = cnt at cl
  refine for_range (lo := 0) (n := ((cnt : Nat) : Int).toNat) (fun i σ H2 => (∃ w4 w5 w6 w7, σ = [some (.ref l), some (.int lanes), some (.int most), some (.ref lf), w4, w5, w6, w7]) ∧ PkAt H2 l ∧ But l H H2 ∧ ∃ ps fs, H2 lf = some (.lst ps) ∧ Prs H2 ps fs ∧ fs.length = i ∧ ∀ f ∈ fs, f.1 < lanes ∧ f.2 < lanes ∧ f.1 ≠ f.2)
    ⟨⟨_, _, _, _, rfl⟩, S1, B0.trans B1, [], [], B1 lf _ upd_same nlf.symm, trivial, rfl, fun f hf => by simp at hf⟩ ?_ ?_
  · rintro i σ H2 hi ⟨⟨w4, w5, w6, w7, rfl⟩, S2, B2, ps, fs, h2, p2, fl, fok⟩
    have l2 : 1 < lanes := by
      by_cases z : 1 < lanes
      · exact z
      · rw [if_neg z] at hcnt; lia
    refine ⟨_, rfl, _, rfl, l, lanes, rfl, by lia, by lia, S2, fun one H3 ho S3 B3 => ?_⟩
    refine ⟨_, rfl, _, _, rfl, rfl, _, rfl, _, rfl, _, _, rfl, rfl, l, _, rfl, by lia, by lia, S3, fun d H4 hd S4 B4 => ?_⟩
    refine ⟨_, _, rfl, rfl, _, rfl, _, _, rfl, rfl, by lia, ?_⟩
    have hone : one < lanes := by lia
    obtain ⟨ok1, ok2⟩ := other_ok (one := one) (d := d) (lanes := lanes) hone (by lia)
    have ec : ((one : Int) + 1 + d) % lanes = (((one + 1 + d) % lanes : Nat) : Int) := by rw [Int.natCast_emod, Int.natCast_add, Int.natCast_add]; rfl
    dsimp only
    rw [ec]
    generalize (one + 1 + d) % lanes = oth at ok1 ok2
    have h4 := B4 lf _ (B3 lf _ h2 nlf.symm) nlf.symm
    have p4 := p2.tups ((B3.tups S2).trans (B4.tups S3))
    have B4' : But l H H4 := (B2.trans B3).trans B4
    have fin : ∀ (a b : Nat) (H5 : Hp), a < lanes → b < lanes → a ≠ b → PkAt H5 l → But l H H5 → H5 lf = some (.lst ps) → Prs H5 ps fs → ∀ t : Addr, H5 t = none → ps.length < sizeLine ∧ PkAt (upd (upd H5 t (.tup [.int a, .int b])) lf (.lst (ps ++ [.ref t]))) l ∧ But l H (upd (upd H5 t (.tup [.int a, .int b])) lf (.lst (ps ++ [.ref t]))) ∧
        ∃ ps' fs', upd (upd H5 t (.tup [.int a, .int b])) lf (.lst (ps ++ [.ref t])) lf = some (.lst ps') ∧ Prs (upd (upd H5 t (.tup [.int a, .int b])) lf (.lst (ps ++ [.ref t]))) ps' fs' ∧ fs'.length = i + 1 ∧ ∀ f ∈ fs', f.1 < lanes ∧ f.2 < lanes ∧ f.1 ≠ f.2 := fun a b H5 ha hb ab S5 B5 h5 p5 t ht => by
      have st := same_new ht (.tup [.int a, .int b])
      have h6 := st _ _ h5
      have T6 : Tups (upd H5 t (.tup [.int a, .int b])) (upd (upd H5 t (.tup [.int a, .int b])) lf (.lst (ps ++ [.ref t]))) := Tups.lst h6
      refine ⟨by rw [p5.len, fl]; exact Nat.lt_of_lt_of_le (show i < 1000 by lia) (by decide), (S5.keep st).upd nlf, (B5.trans (But.of st)).upd flf, _, fs ++ [(a, b)], upd_same, ((p5.tups (Tups.of st)).tups T6).add (f := (a, b)) (T6 _ _ upd_same), by rw [List.length_append, fl]; rfl, fun f hf => ?_⟩
      rcases List.mem_append.mp hf with z | z
      · exact fok f z
      · rw [List.mem_singleton.mp z]; exact ⟨ha, hb, ab⟩
    refine ⟨_, rfl, (by show 0 ≤ sizeLine; decide), fun e he => ?_⟩
    have s5 := same_new he (.lst [])
    refine ⟨lf, e, ps, rfl, rfl, SqL.of (s5 _ _ h4), SqL.of upd_same, _, rfl, ?_⟩
    have S5 := S4.keep s5
    have B5 : But l H (L2.upd H4 e (.lst [])) := B4'.trans (But.of s5)
    have h5 := s5 _ _ h4
    have p5 := p4.tups (Tups.of s5)
    generalize L2.upd H4 e (.lst []) = H5 at *
    by_cases pn : ps = []
    · rw [show (!ps.isEmpty) = false by rw [pn]; rfl]
      refine iteF ?_
      refine ⟨_, rfl, .inl ⟨rfl, _, SqL.of h5⟩, _, rfl, _, rfl, (by show 2 ≤ sizeLine; decide), fun t ht => ?_⟩
      obtain ⟨z, a1, a2, a3⟩ := fin one oth H5 hone ok1 ok2 S5 B5 h5 p5 t ht
      exact ⟨lf, _, _, rfl, rfl, same_new ht _ _ _ h5, z, ⟨_, _, _, _, rfl⟩, a1, a2, a3⟩
    rw [show (!ps.isEmpty) = true by cases ps with
      | nil => exact absurd rfl pn
      | cons a b => rfl]
    refine iteT ⟨_, rfl, l, 4, rfl, by decide, by decide, S5, fun y H6 hy S6 B6 => ⟨rfl, _, rfl, ?_⟩⟩
    have h6 := B6 lf _ h5 nlf.symm
    have p6 := p5.tups (B6.tups S5)
    have B6' : But l H H6 := B5.trans B6
    refine ite2 (fun _ => ?_) (fun _ => ?_)
    · -- the last one anew
      have pp : 0 < ps.length := List.length_pos_iff.mpr pn
      have lx : ps[ps.length - 1]? = some ps[ps.length - 1] := List.getElem?_eq_getElem (by lia)
      obtain ⟨a, g, ea, eg, ha⟩ := p6.get lx
      have okg := fok g (List.mem_of_getElem? eg)
      rw [ea] at lx
      refine ⟨_, rfl, _, rfl, lf, _, _, _, rfl, rfl, SqL.of h6, at_end lx, ?_⟩
      refine ⟨_, rfl, _, rfl, (by show 2 ≤ sizeLine; decide), fun q hq => ?_⟩
      have s7 := same_new hq (.lst [.int 1, .int (-1)])
      have nlq := S6.ne hq
      refine ⟨l, q, _, rfl, S6.keep s7, nlq.symm, upd_same, by show 0 < 2; decide, by show 2 ≤ 100000; decide, fun j x H8 hx S8 B8 => ?_⟩
      have T8 : Tups H6 H8 := (Tups.of s7).trans (B8.tups (S6.keep s7))
      have h8 := B8 lf _ (s7 _ _ h6) nlf.symm
      have B8' : But l H H8 := (B6'.trans (But.of s7)).trans B8
      have jl := (List.getElem?_eq_some_iff.mp hx).1
      simp only [List.length_cons, List.length_nil] at jl
      rcases j with _ | _ | j
      · obtain rfl := Option.some.inj hx
        refine ⟨_, rfl, a, _, _, rfl, SqT.of (T8 _ _ ha), .inl ⟨rfl, ?_⟩⟩
        refine ⟨a, _, rfl, SqT.of (T8 _ _ ha), rfl, _, _, rfl, _, _, rfl, rfl, ?_⟩
        refine ⟨_, rfl, .inl ⟨rfl, _, SqL.of h8⟩, _, rfl, _, rfl, (by show 2 ≤ sizeLine; decide), fun t ht => ?_⟩
        obtain ⟨z, a1, a2, a3⟩ := fin g.1 g.2 H8 okg.1 okg.2.1 okg.2.2 S8 B8' h8 (p6.tups T8) t ht
        exact ⟨lf, _, _, rfl, rfl, same_new ht _ _ _ h8, z, ⟨_, _, _, _, rfl⟩, a1, a2, a3⟩
      · obtain rfl := Option.some.inj hx
        refine ⟨_, rfl, a, _, _, rfl, SqT.of (T8 _ _ ha), .inr ⟨rfl, fun b hb => ?_⟩⟩
        have s9 := same_new hb (.tup [.int g.2, .int g.1])
        refine ⟨b, _, rfl, SqT.of upd_same, rfl, _, _, rfl, _, _, rfl, rfl, ?_⟩
        refine ⟨_, rfl, .inl ⟨rfl, _, SqL.of (s9 _ _ h8)⟩, _, rfl, _, rfl, (by show 2 ≤ sizeLine; decide), fun t ht => ?_⟩
        obtain ⟨z, a1, a2, a3⟩ := fin g.2 g.1 _ okg.2.1 okg.1 (Ne.symm okg.2.2) (S8.keep s9) (B8'.trans (But.of s9)) (s9 _ _ h8) ((p6.tups T8).tups (Tups.of s9)) t ht
        exact ⟨lf, _, _, rfl, rfl, same_new ht _ _ _ (s9 _ _ h8), z, ⟨_, _, _, _, rfl⟩, a1, a2, a3⟩
      · lia
    · refine ⟨_, rfl, .inl ⟨rfl, _, SqL.of h6⟩, _, rfl, _, rfl, (by show 2 ≤ sizeLine; decide), fun t ht => ?_⟩
      obtain ⟨z, a1, a2, a3⟩ := fin one oth H6 hone ok1 ok2 S6 B6' h6 p6 t ht
      exact ⟨lf, _, _, rfl, rfl, same_new ht _ _ _ h6, z, ⟨_, _, _, _, rfl⟩, a1, a2, a3⟩
  · rintro σ H2 ⟨⟨w4, w5, w6, w7, rfl⟩, S2, B2, ps, fs, h2, p2, fl, fok⟩
    refine ⟨_, rfl, lanes, rfl, by lia, fun le hle => ?_⟩
    have s3 := same_new hle (if true = true then HO.lst (upTo lanes) else .tup (upTo lanes))
    have e3 : upd H2 le (if true = true then HO.lst (upTo lanes) else .tup (upTo lanes)) le = some (.lst (nums (List.range lanes))) := upd_same
    have nle := S2.ne hle
    have S3 := S2.keep s3
    have B3 : But l H (upd H2 le (if true = true then HO.lst (upTo lanes) else .tup (upTo lanes))) := B2.trans (But.of s3)
    have h3 := s3 _ _ h2
    have p3 := p2.tups (Tups.of s3)
    generalize upd H2 le (if true = true then HO.lst (upTo lanes) else .tup (upTo lanes)) = H3 at *
    have fin : ∀ (el : Addr) (es : List Nat) (w4 w5 w6 : Option V) (H4 : Hp), es.Perm (List.range lanes) → H4 el = some (.lst (nums es)) → PkAt H4 l → But l H H4 → H4 lf = some (.lst ps) → Prs H4 ps fs → ∀ fr, H4 fr = none → ∀ er, upd H4 fr (.tup ps) er = none → ∀ r, upd (upd H4 fr (.tup ps)) er (.tup (nums es)) r = none → Q (.ref r) (upd (upd (upd H4 fr (.tup ps)) er (.tup (nums es))) r (.tup [.int lanes, .ref fr, .ref er])) := fun el es w4 w5 w6 H4 pe he S4 B4 h4 p4 fr hfr er her r hr' => by
      have t1 := same_new hfr (.tup ps)
      have t2 := same_new her (.tup (nums es))
      have t3 := same_new hr' (.tup [.int lanes, .ref fr, .ref er])
      have t := (t1.trans t2).trans t3
      exact k r fr er ps ⟨lanes, fs, es⟩ _ ⟨l1, l16, by show fs.length ≤ 128; lia, fok, pe⟩ rfl (by show fs.length ≤ most; lia) ⟨upd_same, (t2.trans t3) _ _ upd_same, p4.tups (Tups.of t), t3 _ _ upd_same⟩ (S4.keep t) (B4.trans (But.of t))
    refine ⟨_, rfl, l, 2, rfl, by decide, by decide, S3, fun y H4 hy S4 B4 => ⟨rfl, _, rfl, ?_⟩⟩
    have e4 := B4 le _ e3 nle.symm
    have h4 := B4 lf _ h3 nlf.symm
    have p4 := p3.tups (B4.tups S3)
    refine ite2 (fun _ => ?_) (fun _ => ?_)
    · refine ⟨_, rfl, _, rfl, l, le, _, rfl, S4, nle.symm, e4, by rw [nums_len, List.length_range]; lia, fun el ys H5 pm hel e5 S5 B5 => ?_⟩
      obtain ⟨es, rfl, pe⟩ : ∃ es : List Nat, ys = nums es ∧ es.Perm (List.range lanes) := nums_perm pm
      have h5 := B5 lf _ h4 nlf.symm
      refine ⟨_, rfl, _, rfl, lf, _, rfl, .inl ⟨SqL.of h5, fun fr hfr => ⟨_, rfl, el, _, rfl, .inl ⟨SqL.of (same_new hfr _ _ _ e5), fun er her => ⟨(by show 3 ≤ sizeLine; decide), fun r hr' => ?_⟩⟩⟩⟩⟩
      exact fin el es none none none H5 pe e5 S5 ((B3.trans B4).trans B5) h5 (p4.tups (B5.tups S4)) fr hfr er her r hr'
    · refine ⟨_, rfl, _, rfl, lf, _, rfl, .inl ⟨SqL.of h4, fun fr hfr => ⟨_, rfl, le, _, rfl, .inl ⟨SqL.of (same_new hfr _ _ _ e4), fun er her => ⟨(by show 3 ≤ sizeLine; decide), fun r hr' => ?_⟩⟩⟩⟩⟩
      exact fin le _ none none none H4 (.refl _) e4 S4 (B3.trans B4) h4 p4 fr hfr er her r hr'
end
end K20
end
section
set_option maxHeartbeats 4000001
namespace L2
open PySem PySem.Spec PyProof.Rows Own
end L2
namespace Bn
open PySem L2 Own
section
variable {n s p c u : Addr}
end
def endN (N : Nt) (lane : Nat) : Nat := N.ends.idxOf lane
theorem end_lt {N : Nt} (ok : N.Ok) {lane : Nat} (h : lane < N.lanes) : endN N lane < N.lanes := by
  have el : N.ends.length = N.lanes := by rw [ok.en.length_eq, List.length_range]
  rw [← el]
  exact List.idxOf_lt_length_of_mem (ok.en.mem_iff.mpr (List.mem_range.mpr h))
end Bn
end
section
set_option maxHeartbeats 4000001
namespace L2
open PySem
end L2
namespace Bn
open PySem L2 Own
end Bn
end
section
set_option maxHeartbeats 4000001
namespace Bn
open PySem L2 Own
def dl (lane l : Nat) : Int := if l = lane then 1 else 0
def stepL (f : Fk) (t : Int) (g : Nat → Int) : Nat → Int := fun l => if l = f.1 then (t + 1) / 2 else if l = f.2 then t / 2 else g l
def fkAt (N : Nt) (k : Nat) : Fk := N.forks.getD k (0, 0)
def levF (N : Nt) (c T : Nat → Int) : Nat → Nat → Int
  | 0 => c
  | k + 1 => stepL (fkAt N k) (T k) (levF N c T k)
def isAt (p : Nat × Nat → Bool) : Option (Nat × Nat) → Bool
  | some o => p o
  | none => false
def cnt (os : List (Option (Nat × Nat))) (p : Nat × Nat → Bool) : Int := (os.countP (isAt p) : Nat)
def atK (k : Nat) : Nat × Nat → Bool := fun o => decide (o.2 = k)
def atL (lane k : Nat) : Nat × Nat → Bool := fun o => decide (o = (lane, k))
theorem fk_ne {N : Nt} (ok : N.Ok) {k : Nat} (h : k < N.forks.length) : (fkAt N k).1 ≠ (fkAt N k).2 := by
  have e : fkAt N k = N.forks[k] := by unfold fkAt; rw [List.getD_eq_getElem?_getD, List.getElem?_eq_getElem h]; rfl
  rw [e]; exact (ok.fk _ (List.getElem_mem h)).2.2
end Bn
end
section
set_option maxHeartbeats 4000001
namespace Bn
open PySem L2 Own
theorem end_inj {N : Nt} (ok : N.Ok) {a b : Nat} (ha : a < N.lanes) (hb : b < N.lanes) (h : endN N a = endN N b) : a = b := by
  have ma : a ∈ N.ends := ok.en.mem_iff.mpr (List.mem_range.mpr ha)
  have mb : b ∈ N.ends := ok.en.mem_iff.mpr (List.mem_range.mpr hb)
  have ea := List.getElem_idxOf (List.idxOf_lt_length_of_mem ma)
  have eb := List.getElem_idxOf (List.idxOf_lt_length_of_mem mb)
  unfold endN at h
  rw [← ea, ← eb]
  congr 1
end Bn
end
section
set_option maxHeartbeats 4000001
namespace Bn
open PySem L2 Own
def dw (m : Int) (lane l : Nat) : Int := if l = lane then m else 0
theorem dw_on {m : Int} {lane l : Nat} (h : l = lane) : dw m lane l = m := if_pos h
theorem dw_off {m : Int} {lane l : Nat} (h : ¬ l = lane) : dw m lane l = 0 := if_neg h
theorem stepW_eq (f : Fk) (t m : Int) {g h : Nat → Int} {lane : Nat} (e : ∀ l, h l = g l + dw m lane l) (on : lane = f.1 ∨ lane = f.2) : stepL f t h = stepL f t g := by
  funext l
  unfold stepL
  by_cases a : l = f.1
  · rw [if_pos a, if_pos a]
  by_cases b : l = f.2
  · rw [if_neg a, if_neg a, if_pos b, if_pos b]
  rw [if_neg a, if_neg a, if_neg b, if_neg b, e l, dw_off (fun z => on.elim (fun o => a (z.trans o)) (fun o => b (z.trans o))), Int.add_zero]
theorem stepW_off (f : Fk) (t m : Int) {g h : Nat → Int} {lane : Nat} (e : ∀ l, h l = g l + dw m lane l) (off : ¬ (lane = f.1 ∨ lane = f.2)) (l : Nat) : stepL f t h l = stepL f t g l + dw m lane l := by
  unfold stepL
  by_cases a : l = f.1
  · rw [if_pos a, if_pos a, dw_off (fun z => off (.inl (z.symm.trans a))), Int.add_zero]
  by_cases b : l = f.2
  · rw [if_neg a, if_neg a, if_pos b, if_pos b, dw_off (fun z => off (.inr (z.symm.trans b))), Int.add_zero]
  rw [if_neg a, if_neg a, if_neg b, if_neg b, e l]
theorem fk_get {N : Nt} {j : Nat} (h : j < N.forks.length) : N.forks[j]? = some (fkAt N j) := by unfold fkAt; rw [List.getD_eq_getElem?_getD, List.getElem?_eq_getElem h]; rfl
theorem bumpW {N : Nt} {X Y : Nat → Nat → Int} {T : Nat → Int} {m : Int} {i0 lane k : Nat} (hx : ∀ j, i0 ≤ j → X (j + 1) = stepL (fkAt N j) (T j) (X j)) (hy : ∀ j, i0 ≤ j → Y (j + 1) = stepL (fkAt N j) (T j) (Y j))
    (h0 : ∀ l, Y i0 l = X i0 l + dw m lane l) (nx : IsNext N.forks lane i0 k) :
    (∀ d, i0 + d ≤ k → ∀ l, Y (i0 + d) l = X (i0 + d) l + dw m lane l) ∧ (k < N.forks.length → ∀ d, Y (k + 1 + d) = X (k + 1 + d)) := by
  have first : ∀ d, i0 + d ≤ k → ∀ l, Y (i0 + d) l = X (i0 + d) l + dw m lane l := fun d => by
    induction d with
    | zero => exact fun _ => h0
    | succ d ih =>
      intro hd l
      have jl : i0 + d < N.forks.length := by have := nx.upto; lia
      show Y (i0 + d + 1) l = X (i0 + d + 1) l + _
      rw [hx _ (Nat.le_add_right _ _), hy _ (Nat.le_add_right _ _)]
      exact stepW_off _ _ _ (ih (by lia)) (nx.none _ _ (Nat.le_add_right _ _) (by lia) (fk_get jl)) l
  refine ⟨first, fun hk d => ?_⟩
  have fr := nx.from_
  induction d with
  | zero =>
    show Y (k + 1) = X (k + 1)
    have e := first (k - i0) (by lia)
    rw [show i0 + (k - i0) = k by lia] at e
    rw [hx _ fr, hy _ fr]
    exact stepW_eq _ _ _ e (nx.here _ (fk_get hk))
  | succ d ih =>
    show Y (k + 1 + d + 1) = X (k + 1 + d + 1)
    rw [hx _ (by lia), hy _ (by lia), ih]
def iw (b : Bool) (m : Int) : Int := if b = true then m else 0
theorem more_sumsW {N : Nt} (ok : N.Ok) {X Y : Nat → Nat → Int} {T : Nat → Int} {m : Int} {i0 lane k : Nat} (hx : ∀ j, i0 ≤ j → X (j + 1) = stepL (fkAt N j) (T j) (X j)) (hy : ∀ j, i0 ≤ j → Y (j + 1) = stepL (fkAt N j) (T j) (Y j))
    (h0 : ∀ l, Y i0 l = X i0 l + dw m lane l) (nx : IsNext N.forks lane i0 k) :
    (∀ j, i0 ≤ j → j < N.forks.length → Y j (fkAt N j).1 + Y j (fkAt N j).2 = X j (fkAt N j).1 + X j (fkAt N j).2 + iw (atK j (lane, k)) m) ∧ (∀ l, i0 ≤ N.forks.length → Y N.forks.length l = X N.forks.length l + iw (atL l N.forks.length (lane, k)) m) := by
  obtain ⟨b1, b2⟩ := bumpW hx hy h0 nx
  have fr := nx.from_
  constructor
  · intro j h1 h2
    have ne := fk_ne ok h2
    unfold atK iw
    by_cases a : k = j
    · subst a
      have e := b1 (k - i0) (by lia)
      rw [show i0 + (k - i0) = k by lia] at e
      rw [if_pos (decide_eq_true rfl), e, e]
      rcases nx.here _ (fk_get h2) with o | o
      · rw [dw_on o.symm, dw_off (fun z => ne (o.symm.trans z.symm))]; lia
      · rw [dw_on o.symm, dw_off (fun z => ne (z.trans o))]; lia
    · rw [if_neg (by simpa using a)]
      by_cases b : j < k
      · have e := b1 (j - i0) (by lia)
        rw [show i0 + (j - i0) = j by lia] at e
        have off := nx.none j _ h1 b (fk_get h2)
        rw [e, e, dw_off (fun z => off (.inl z.symm)), dw_off (fun z => off (.inr z.symm))]; lia
      · have e := b2 (by lia) (j - (k + 1))
        rw [show k + 1 + (j - (k + 1)) = j by lia] at e
        rw [e, Int.add_zero]
  · intro l h1
    have up := nx.upto
    unfold atL iw
    by_cases a : k = N.forks.length
    · have e := b1 (N.forks.length - i0) (by lia) l
      rw [show i0 + (N.forks.length - i0) = N.forks.length by lia] at e
      rw [e]
      by_cases c : l = lane
      · rw [dw_on c, if_pos (decide_eq_true (by rw [c, a]))]
      · rw [dw_off c, if_neg (by simpa using fun z => absurd z.symm c)]
    · have e := b2 (by lia) (N.forks.length - (k + 1))
      rw [show k + 1 + (N.forks.length - (k + 1)) = N.forks.length by lia] at e
      rw [e, if_neg (by simpa using fun _ => a), Int.add_zero]
theorem halvesW (f : Fk) (hf : f.1 ≠ f.2) (t m : Int) (g : Nat → Int) (l : Nat) : stepL f (t + m) g l = stepL f t g l + dw ((t % 2 + m + 1) / 2 - t % 2) f.1 l + dw (m - ((t % 2 + m + 1) / 2 - t % 2)) f.2 l := by
  unfold stepL
  by_cases a : l = f.1
  · rw [if_pos a, if_pos a, dw_on a, dw_off (fun z => hf (a.symm.trans z))]; lia
  by_cases b : l = f.2
  · rw [if_neg a, if_neg a, if_pos b, if_pos b, dw_off a, dw_on b]; lia
  rw [if_neg a, if_neg a, if_neg b, if_neg b, dw_off a, dw_off b]; lia
def wt (p : Nat × Nat → Bool) : List Grp → Int
  | [] => 0
  | g :: gs => iw (p (g.lane, g.fork)) g.many + wt p gs
theorem wt_app (p : Nat × Nat → Bool) : ∀ a b : List Grp, wt p (a ++ b) = wt p a + wt p b
  | [], b => (Int.zero_add _).symm
  | g :: a, b => by show _ + wt p (a ++ b) = _ + wt p a + wt p b; rw [wt_app p a b, Int.add_assoc]
theorem iw0 (b : Bool) : iw b 0 = 0 := by unfold iw; split <;> rfl
theorem wt_part (p : Nat × Nat → Bool) (m : Int) (lane k : Nat) : wt p (part m lane k) = iw (p (lane, k)) m := by
  unfold part
  by_cases h : m = 0
  · rw [if_pos h, h, iw0]; rfl
  · rw [if_neg h]; exact Int.add_zero _
theorem cut1 {gs : List Grp} {i : Nat} {g : Grp} (h : gs[i]? = some g) : gs = gs.take i ++ g :: gs.drop (i + 1) := by
  have z := List.getElem?_eq_some_iff.mp h
  rw [← z.2, List.getElem_cons_drop, List.take_append_drop]
theorem wt_cut (p : Nat × Nat → Bool) {gs : List Grp} {i : Nat} {g : Grp} (h : gs[i]? = some g) : wt p gs = wt p (gs.take i) + iw (p (g.lane, g.fork)) g.many + wt p (gs.drop (i + 1)) := by
  have e := congrArg (wt p) (cut1 h)
  rw [wt_app] at e
  rw [e, Int.add_assoc]; rfl
structure RanW (N : Nt) (c T : Nat → Int) (ts : List Int) (gs : List Grp) (os : List Int) : Prop where
  st : ∀ k, k < N.forks.length → ts.getD k 0 = T k % 2
  on : ∀ g ∈ gs, g.fork < N.forks.length → g.lane = (fkAt N g.fork).1 ∨ g.lane = (fkAt N g.fork).2
  fk : ∀ k, k < N.forks.length → levF N c T k (fkAt N k).1 + levF N c T k (fkAt N k).2 = T k + wt (atK k) gs
  en : ∀ l, l < N.lanes → levF N c T N.forks.length l = os.getD (endN N l) 0 + wt (atL l N.forks.length) gs
theorem RanW.put {N : Nt} (ok : N.Ok) {c T : Nat → Int} {ts os : List Int} {gs : List Grp} (R : RanW N c T ts gs os) {lane k : Nat} {m : Int} (nx : IsNext N.forks lane 0 k) : RanW N (fun l => c l + dw m lane l) T ts (gs ++ [⟨m, lane, k⟩]) os := by
  obtain ⟨m1, m2⟩ := more_sumsW ok (X := levF N c T) (Y := levF N (fun l => c l + dw m lane l) T) (T := T) (m := m) (i0 := 0) (fun _ _ => rfl) (fun _ _ => rfl) (fun _ => rfl) nx
  refine ⟨R.st, fun g hg hk => ?_, fun j hj => ?_, fun l hl => ?_⟩
  · rcases List.mem_append.mp hg with z | z
    · exact R.on g z hk
    · obtain rfl := List.mem_singleton.mp z
      exact nx.here _ (fk_get hk)
  · rw [m1 j (Nat.zero_le _) hj, R.fk j hj, wt_app]
    show _ = T j + (_ + (iw (atK j (lane, k)) m + 0))
    lia
  · rw [m2 l (Nat.zero_le _), R.en l hl, wt_app]
    show _ = os.getD (endN N l) 0 + (_ + (iw (atL l N.forks.length (lane, k)) m + 0))
    lia
theorem RanW.go {N : Nt} (ok : N.Ok) {c T : Nat → Int} {ts os : List Int} {gs ms : List Grp} (R : RanW N c T ts gs os) (tl : ts.length = N.forks.length) {i : Nat} {g : Grp} (hg : gs[i]? = some g) (hk : g.fork < N.forks.length) (hp : Parts N.forks (ts.getD g.fork 0) g.many g.fork ms) :
    RanW N c (fun j => if j = g.fork then T g.fork + g.many else T j) (ts.set g.fork ((ts.getD g.fork 0 + g.many) % 2)) (gs.take i ++ ms ++ gs.drop (i + 1)) os := by
  obtain ⟨f, k1, k2, ef, n1, n2, rfl⟩ := hp
  have sk := R.st _ hk
  rw [sk]
  have e1 : f = fkAt N g.fork := Option.some.inj (ef.symm.trans (fk_get hk))
  subst e1
  generalize hk' : g.fork = k at *
  generalize hp1 : (T k % 2 + g.many + 1) / 2 - T k % 2 = p1 at *
  have low : ∀ j, j ≤ k → levF N c (fun j => if j = k then T k + g.many else T j) j = levF N c T j := fun j => by
    induction j with
    | zero => exact fun _ => rfl
    | succ j ih =>
      intro hj
      show stepL _ (if j = k then T k + g.many else T j) _ = stepL _ (T j) _
      rw [if_neg (by lia), ih (by lia)]
  let Z : Nat → Nat → Int := fun j => Nat.rec (fun _ => 0) (fun j z => if j = k then (fun l => levF N c T (k + 1) l + dw p1 (fkAt N k).1 l) else stepL (fkAt N j) (T j) z) j
  have z0 : Z (k + 1) = fun l => levF N c T (k + 1) l + dw p1 (fkAt N k).1 l := if_pos rfl
  have zs : ∀ j, k + 1 ≤ j → Z (j + 1) = stepL (fkAt N j) (T j) (Z j) := fun j hj => if_neg (by lia)
  obtain ⟨m1, m2⟩ := more_sumsW ok (X := levF N c T) (Y := Z) (T := T) (m := p1) (i0 := k + 1) (fun _ _ => rfl) zs (fun l => congrFun z0 l) n1
  have y0 : ∀ l, levF N c (fun j => if j = k then T k + g.many else T j) (k + 1) l = Z (k + 1) l + dw (g.many - p1) (fkAt N k).2 l := fun l => by
    rw [z0]
    show stepL _ (if k = k then T k + g.many else T k) _ l = stepL _ (T k) _ l + _ + _
    rw [if_pos rfl, low k (Nat.le_refl _), ← hp1]
    exact halvesW _ (fk_ne ok hk) _ _ _ l
  obtain ⟨m3, m4⟩ := more_sumsW ok (X := Z) (Y := levF N c (fun j => if j = k then T k + g.many else T j)) (T := T) (m := g.many - p1) (i0 := k + 1) zs (fun j hj => by
    show stepL _ (if j = k then T k + g.many else T j) _ = _
    rw [if_neg (by lia)]) y0 n2
  have cs : ∀ p : Nat × Nat → Bool, wt p (gs.take i ++ (part p1 (fkAt N k).1 k1 ++ part (g.many - p1) (fkAt N k).2 k2) ++ gs.drop (i + 1)) + iw (p (g.lane, k)) g.many = wt p gs + (iw (p ((fkAt N k).1, k1)) p1 + iw (p ((fkAt N k).2, k2)) (g.many - p1)) := fun p => by
    rw [wt_cut p hg, wt_app, wt_app, wt_app, wt_part, wt_part, hk']; lia
  have f1 := n1.from_
  have f2 := n2.from_
  refine ⟨fun j hj => ?_, fun x hx hq => ?_, fun j hj => ?_, fun l hl => ?_⟩
  · rw [List.getD_eq_getElem?_getD, List.getElem?_set]
    by_cases e : k = j
    · subst e
      rw [if_pos rfl, if_pos (by lia)]
      show (T k % 2 + g.many) % 2 = (if k = k then T k + g.many else T k) % 2
      rw [if_pos rfl]; lia
    · rw [if_neg e, ← List.getD_eq_getElem?_getD]
      show _ = (if j = k then T k + g.many else T j) % 2
      rw [if_neg (fun z => e z.symm)]; exact R.st j hj
  · rcases List.mem_append.mp hx with z | z
    · rcases List.mem_append.mp z with z | z
      · exact R.on x (List.mem_of_mem_take z) hq
      · rcases List.mem_append.mp z with z | z
        · obtain rfl := part_mem z
          exact n1.here _ (fk_get hq)
        · obtain rfl := part_mem z
          exact n2.here _ (fk_get hq)
    · exact R.on x (List.mem_of_mem_drop z) hq
  · have c1 := cs (atK j)
    have w := R.fk j hj
    show _ = (if j = k then T k + g.many else T j) + _
    have o1 : iw (atK j (g.lane, k)) g.many = if j = k then g.many else 0 := by
      unfold atK iw
      by_cases z : k = j
      · rw [if_pos (decide_eq_true z), if_pos z.symm]
      · rw [if_neg (by simpa using z), if_neg (fun y => z y.symm)]
    rw [o1] at c1
    by_cases a : j ≤ k
    · rw [low j a]
      have o2 : iw (atK j ((fkAt N k).1, k1)) p1 = 0 := by unfold atK iw; rw [if_neg (by simp; lia)]
      have o3 : iw (atK j ((fkAt N k).2, k2)) (g.many - p1) = 0 := by unfold atK iw; rw [if_neg (by simp; lia)]
      rw [o2, o3] at c1
      by_cases z : j = k
      · subst z
        rw [if_pos rfl] at c1 ⊢
        lia
      · rw [if_neg z] at c1 ⊢
        lia
    · rw [m3 j (by lia) hj, m1 j (by lia) hj]
      rw [if_neg (by lia)] at c1 ⊢
      lia
  · have c1 := cs (atL l N.forks.length)
    have o1 : iw (atL l N.forks.length (g.lane, k)) g.many = 0 := by unfold atL iw; rw [if_neg (by simp; lia)]
    rw [o1] at c1
    rw [m4 l (by lia), m2 l (by lia), R.en l hl]
    lia
theorem RanW.out {N : Nt} (ok : N.Ok) {c T : Nat → Int} {ts os : List Int} {gs : List Grp} (R : RanW N c T ts gs os) (ol : os.length = N.lanes) {i : Nat} {g : Grp} (hg : gs[i]? = some g) (hk : g.fork = N.forks.length) (hl : g.lane < N.lanes) :
    RanW N c T ts (gs.take i ++ gs.drop (i + 1)) (os.set (endN N g.lane) (os.getD (endN N g.lane) 0 + g.many)) := by
  have cs : ∀ p : Nat × Nat → Bool, wt p (gs.take i ++ gs.drop (i + 1)) + iw (p (g.lane, N.forks.length)) g.many = wt p gs := fun p => by
    rw [wt_cut p hg, wt_app, hk]; lia
  refine ⟨R.st, fun x hx hq => ?_, fun j hj => ?_, fun l hl' => ?_⟩
  · rcases List.mem_append.mp hx with z | z
    · exact R.on x (List.mem_of_mem_take z) hq
    · exact R.on x (List.mem_of_mem_drop z) hq
  · have c1 := cs (atK j)
    have o1 : iw (atK j (g.lane, N.forks.length)) g.many = 0 := by unfold atK iw; rw [if_neg (by simp; lia)]
    rw [o1] at c1
    rw [R.fk j hj]; lia
  · have c1 := cs (atL l N.forks.length)
    rw [R.en l hl', List.getD_eq_getElem?_getD (l := os.set _ _), List.getElem?_set]
    by_cases e : l = g.lane
    · subst e
      have o1 : iw (atL g.lane N.forks.length (g.lane, N.forks.length)) g.many = g.many := by unfold atL iw; rw [if_pos (decide_eq_true rfl)]
      rw [o1] at c1
      rw [if_pos rfl, if_pos (by rw [ol]; exact end_lt ok hl)]
      show _ = os.getD (endN N g.lane) 0 + g.many + _
      lia
    · have o1 : iw (atL l N.forks.length (g.lane, N.forks.length)) g.many = 0 := by unfold atL iw; rw [if_neg (by simp; exact fun z => e z.symm)]
      rw [o1] at c1
      rw [if_neg (fun z => e (end_inj ok hl hl' z).symm), ← List.getD_eq_getElem?_getD]
      lia
theorem RanW.join {N : Nt} {c T : Nat → Int} {ts os : List Int} {gs gs' : List Grp} (R : RanW N c T ts gs os) {i j : Nat} {g h : Grp} (ij : i < j) (hg : gs[i]? = some g) (hh : gs[j]? = some h) (el : h.lane = g.lane) (ef : h.fork = g.fork) (e : gs' = gs.take i ++ part (g.many + h.many) g.lane g.fork ++ (gs.drop (i + 1)).take (j - (i + 1)) ++ gs.drop (j + 1)) : RanW N c T ts gs' os := by
  have cs : ∀ p : Nat × Nat → Bool, wt p gs' = wt p gs := fun p => by
    have d1 : (gs.drop (i + 1))[j - (i + 1)]? = some h := by rw [List.getElem?_drop, show i + 1 + (j - (i + 1)) = j by lia]; exact hh
    have d2 := wt_cut p d1
    rw [List.drop_drop, show i + 1 + (j - (i + 1) + 1) = j + 1 by lia, el, ef] at d2
    rw [wt_cut p hg, d2, e, wt_app, wt_app, wt_app, wt_part]
    unfold iw
    split <;> lia
  refine ⟨R.st, fun x hx hq => ?_, fun k hk => by rw [cs]; exact R.fk k hk, fun l hl => by rw [cs]; exact R.en l hl⟩
  rw [e] at hx
  rcases List.mem_append.mp hx with z | z
  · rcases List.mem_append.mp z with z | z
    · rcases List.mem_append.mp z with z | z
      · exact R.on x (List.mem_of_mem_take z) hq
      · obtain rfl := part_mem z
        exact R.on g (List.mem_of_getElem? hg) hq
    · exact R.on x (List.mem_of_mem_drop (List.mem_of_mem_take z)) hq
  · exact R.on x (List.mem_of_mem_drop z) hq
theorem RanW.zero {N : Nt} : RanW N (fun _ => 0) (fun _ => 0) (List.replicate N.forks.length 0) [] (List.replicate N.lanes 0) := by
  have z : ∀ k l, levF N (fun _ => 0) (fun _ => 0) k l = 0 := fun k => by
    induction k with
    | zero => exact fun _ => rfl
    | succ k ih =>
      intro l
      show stepL _ 0 _ l = 0
      unfold stepL
      split
      · rfl
      · split
        · rfl
        · exact ih l
  refine ⟨fun k hk => ?_, fun g hg => absurd hg (by simp), fun k hk => by rw [z, z]; rfl, fun l hl => ?_⟩
  · rw [List.getD_eq_getElem?_getD, List.getElem?_replicate, if_pos hk]; rfl
  · rw [z, List.getD_eq_getElem?_getD, List.getElem?_replicate]
    split <;> rfl
theorem RanW.done {N : Nt} (ok : N.Ok) {c T : Nat → Int} {ts os : List Int} (tl : ts.length = N.forks.length) (ol : os.length = N.lanes) (R : RanW N c T ts [] os) {cs : List Int} (cl : cs.length = N.lanes) (hc : ∀ l, l < N.lanes → cs.getD l 0 = c l) :
    ts = turnsM N cs ∧ os = endsM N cs := by
  have key : ∀ j, j ≤ N.forks.length → (∀ l, l < N.lanes → (flow (N.forks.take j) cs).1.getD l 0 = levF N c T j l) ∧ (flow (N.forks.take j) cs).2 = (List.range j).map fun q => T q % 2 := fun j => by
    induction j with
    | zero => exact fun _ => ⟨hc, rfl⟩
    | succ j ih =>
      intro hj
      obtain ⟨i1, i2⟩ := ih (by lia)
      have eg := fk_get (N := N) (j := j) (by lia)
      have okf := ok.fk _ (List.mem_of_getElem? eg)
      have fl : (flow (N.forks.take j) cs).1.length = N.lanes := by rw [flow_len, cl]
      have tj : (flow (N.forks.take j) cs).1.getD (fkAt N j).1 0 + (flow (N.forks.take j) cs).1.getD (fkAt N j).2 0 = T j := by
        rw [i1 _ okf.1, i1 _ okf.2.1, R.fk j (by lia)]; exact Int.add_zero _
      rw [flow_take eg cs]
      generalize flow (N.forks.take j) cs = st at *
      unfold stepF
      refine ⟨fun l hl => ?_, ?_⟩
      · show ((st.1.set (fkAt N j).1 ((st.1.getD (fkAt N j).1 0 + st.1.getD (fkAt N j).2 0 + 1) / 2)).set (fkAt N j).2 ((st.1.getD (fkAt N j).1 0 + st.1.getD (fkAt N j).2 0) / 2)).getD l 0 = stepL (fkAt N j) (T j) _ l
        rw [tj, List.getD_eq_getElem?_getD, List.getElem?_set, List.getElem?_set, List.length_set]
        unfold stepL
        by_cases a : l = (fkAt N j).1
        · rw [if_pos a, if_neg (fun z => okf.2.2 (a.symm.trans z.symm)), if_pos a.symm, if_pos (by lia)]; rfl
        · rw [if_neg a]
          by_cases b : l = (fkAt N j).2
          · rw [if_pos b, if_pos b.symm, if_pos (by lia)]; rfl
          · rw [if_neg b, if_neg (fun z => b z.symm), if_neg (fun z => a z.symm), ← List.getD_eq_getElem?_getD]; exact i1 l hl
      · show st.2 ++ [(st.1.getD (fkAt N j).1 0 + st.1.getD (fkAt N j).2 0) % 2] = _
        rw [tj, i2, List.range_succ, List.map_append]; rfl
  obtain ⟨k1, k2⟩ := key N.forks.length (Nat.le_refl _)
  rw [List.take_length] at k1 k2
  constructor
  · unfold turnsM
    rw [k2]
    refine List.ext_getElem (by rw [List.length_map, List.length_range, tl]) fun i h1 h2 => ?_
    have hi : i < N.forks.length := by lia
    rw [List.getElem_map, List.getElem_range, ← R.st i hi, List.getD_eq_getElem?_getD, List.getElem?_eq_getElem h1]; rfl
  · unfold endsM
    have el : N.ends.length = N.lanes := by rw [ok.en.length_eq, List.length_range]
    refine List.ext_getElem (by rw [List.length_map, ol, el]) fun i h1 h2 => ?_
    rw [List.length_map] at h2
    have lane : N.ends[i] < N.lanes := List.mem_range.mp (ok.en.mem_iff.mp (List.getElem_mem h2))
    have ei : endN N N.ends[i] = i := by
      unfold endN
      exact ok.en.nodup_iff.mpr List.nodup_range |>.idxOf_getElem i h2
    rw [List.getElem_map, k1 _ lane, R.en _ lane, ei, List.getD_eq_getElem?_getD, List.getElem?_eq_getElem h1]
    exact (Int.add_zero _).symm
end Bn
end
section
set_option maxHeartbeats 4000001
namespace Bn
open PySem L2 Own
def dN (q : Nat → Bool) : Nat → Nat
  | 0 => 0
  | n + 1 => dN q n + (if q n = true then 1 else 0)
theorem dN_le (q : Nat → Bool) : ∀ n, dN q n ≤ n
  | 0 => Nat.le_refl _
  | n + 1 => by have := dN_le q n; show dN q n + _ ≤ _; split <;> lia
theorem dN_mono {q r : Nat → Bool} (h : ∀ l, q l = true → r l = true) : ∀ n, dN q n ≤ dN r n
  | 0 => Nat.le_refl _
  | n + 1 => by
    have := dN_mono h n
    show dN q n + _ ≤ dN r n + _
    by_cases z : q n = true
    · rw [if_pos z, if_pos (h n z)]; lia
    · rw [if_neg z]; lia
theorem dN_lt {q r : Nat → Bool} {l : Nat} (h : ∀ l, q l = true → r l = true) (hr : r l = true) (hq : ¬ q l = true) : ∀ n, l < n → dN q n < dN r n
  | 0, hl => absurd hl (by lia)
  | n + 1, hl => by
    show dN q n + _ < dN r n + _
    by_cases z : l = n
    · subst z
      have := dN_mono h l
      rw [if_neg hq, if_pos hr]; lia
    · have := dN_lt h hr hq n (by lia)
      by_cases y : q n = true
      · rw [if_pos y, if_pos (h n y)]; lia
      · rw [if_neg y]; lia
theorem dN_two {q : Nat → Bool} {a b : Nat} (h : ∀ l, q l = true → l = a ∨ l = b) : ∀ n, dN q n ≤ (if a < n then 1 else 0) + (if b < n then 1 else 0)
  | 0 => Nat.zero_le _
  | n + 1 => by
    have ih := dN_two h n
    show dN q n + _ ≤ _
    by_cases z : q n = true
    · rw [if_pos z]
      rcases h n z with rfl | rfl
      · rw [if_pos (Nat.lt_succ_self _)]
        rw [if_neg (Nat.lt_irrefl _)] at ih
        have : (if b < n then 1 else 0 : Nat) ≤ (if b < n + 1 then 1 else 0) := by split <;> split <;> lia
        lia
      · rw [if_pos (Nat.lt_succ_self n)]
        rw [if_neg (Nat.lt_irrefl n)] at ih
        have : (if a < n then 1 else 0 : Nat) ≤ (if a < n + 1 then 1 else 0) := by split <;> split <;> lia
        lia
    · rw [if_neg z]
      have : (if a < n then 1 else 0 : Nat) ≤ (if a < n + 1 then 1 else 0) := by split <;> split <;> lia
      have : (if b < n then 1 else 0 : Nat) ≤ (if b < n + 1 then 1 else 0) := by split <;> split <;> lia
      lia
def hasG (gs : List Grp) (j l : Nat) : Bool := gs.any fun g => decide (g.fork = j ∧ g.lane = l)
theorem hasG_iff {gs : List Grp} {j l : Nat} : hasG gs j l = true ↔ ∃ g ∈ gs, g.fork = j ∧ g.lane = l := by
  unfold hasG
  rw [List.any_eq_true]
  exact ⟨fun ⟨g, h, e⟩ => ⟨g, h, of_decide_eq_true e⟩, fun ⟨g, h, e⟩ => ⟨g, h, decide_eq_true e⟩⟩
def later (N : Nt) (j : Nat) : Nat := if j < N.forks.length then 2 * (N.forks.length - 1 - j) + N.lanes else 0
def far (N : Nt) (gs : List Grp) (j : Nat) : Nat := later N j + dN (hasG gs j) N.lanes
structure GrOk (N : Nt) (gs : List Grp) : Prop where
  gk : ∀ g ∈ gs, g.lane < N.lanes ∧ g.fork ≤ N.forks.length
  on : ∀ g ∈ gs, g.fork < N.forks.length → g.lane = (fkAt N g.fork).1 ∨ g.lane = (fkAt N g.fork).2
theorem far_top {N : Nt} {gs : List Grp} (ok : GrOk N gs) (j : Nat) : far N gs j ≤ (if j < N.forks.length then 2 * (N.forks.length - j) else 0) + N.lanes := by
  unfold far later
  by_cases h : j < N.forks.length
  · rw [if_pos h, if_pos h]
    have := dN_two (q := hasG gs j) (a := (fkAt N j).1) (b := (fkAt N j).2) (fun l hl => by
      obtain ⟨g, hg, rfl, rfl⟩ := hasG_iff.mp hl
      exact ok.on g hg h) N.lanes
    have : dN (hasG gs j) N.lanes ≤ 2 := by
      refine Nat.le_trans this ?_
      split <;> split <;> lia
    lia
  · rw [if_neg h, if_neg h]
    have := dN_le (hasG gs j) N.lanes
    lia
theorem far_up {N : Nt} {gs hs : List Grp} (ok : GrOk N gs) {i j : Nat} (h : i < j) (hj : j ≤ N.forks.length) : far N gs j ≤ later N i := by
  have := far_top ok j
  unfold later
  rw [if_pos (by lia)]
  split at this <;> lia
def Togo (N : Nt) (gs : List Grp) (b : Nat) : Prop := ∃ j, (∀ g ∈ gs, j ≤ g.fork) ∧ gs.length + 2 * far N gs j ≤ b
theorem Togo.first {N : Nt} {gs : List Grp} (ok : GrOk N gs) : Togo N gs (gs.length + 2 * (2 * N.forks.length + N.lanes)) := by
  refine ⟨0, fun g _ => Nat.zero_le _, ?_⟩
  have := far_top ok 0
  split at this <;> lia
theorem far_join {N : Nt} {gs gs' : List Grp} {j : Nat} (h : ∀ x ∈ gs', ∃ y ∈ gs, y.fork = x.fork ∧ y.lane = x.lane) : far N gs' j ≤ far N gs j := by
  unfold far
  refine Nat.add_le_add_left (dN_mono (fun l hl => ?_) _) _
  obtain ⟨x, hx, rfl, rfl⟩ := hasG_iff.mp hl
  obtain ⟨y, hy, e1, e2⟩ := h x hx
  exact hasG_iff.mpr ⟨y, hy, e1, e2⟩
theorem Togo.join {N : Nt} {gs gs' : List Grp} {b : Nat} (L : Togo N gs (b + 1)) (h : ∀ x ∈ gs', ∃ y ∈ gs, y.fork = x.fork ∧ y.lane = x.lane) (hl : gs'.length < gs.length) : Togo N gs' b := by
  obtain ⟨j, h1, h2⟩ := L
  have := far_join (N := N) (j := j) h
  exact ⟨j, fun x hx => by obtain ⟨y, hy, e, _⟩ := h x hx; rw [← e]; exact h1 y hy, by lia⟩
theorem Togo.step {N : Nt} {gs gs' : List Grp} {b : Nat} {g : Grp} (ok : GrOk N gs) (L : Togo N gs (b + 1)) (hg : g ∈ gs) (hm : ∀ x ∈ gs, g.fork ≤ x.fork) (h : ∀ x ∈ gs', g.fork < x.fork ∨ (x ∈ gs ∧ ¬ (x.fork = g.fork ∧ x.lane = g.lane))) (hl : gs'.length ≤ gs.length + 1) : Togo N gs' b := by
  obtain ⟨j, h1, h2⟩ := L
  have gl := (ok.gk g hg)
  have up : far N gs g.fork ≤ far N gs j := by
    rcases Nat.lt_or_eq_of_le (h1 g hg) with z | z
    · have := far_up (hs := gs) ok z gl.2
      unfold far at this ⊢; lia
    · rw [← z]; exact Nat.le_refl _
  refine ⟨g.fork, fun x hx => by rcases h x hx with z | z; lia; exact hm x z.1, ?_⟩
  have lt : far N gs' g.fork < far N gs g.fork := by
    unfold far
    refine Nat.add_lt_add_left (dN_lt (l := g.lane) (fun l hl => ?_) (hasG_iff.mpr ⟨g, hg, rfl, rfl⟩) (fun z => ?_) _ gl.1) _
    · obtain ⟨x, hx, e1, e2⟩ := hasG_iff.mp hl
      rcases h x hx with z | z
      · lia
      · exact hasG_iff.mpr ⟨x, z.1, e1, e2⟩
    · obtain ⟨x, hx, e1, e2⟩ := hasG_iff.mp z
      rcases h x hx with z | z
      · lia
      · exact z.2 ⟨e1, e2⟩
  lia
theorem Togo.none {N : Nt} {gs : List Grp} (L : Togo N gs 0) : gs = [] := by
  obtain ⟨j, _, h2⟩ := L
  exact List.length_eq_zero_iff.mp (by lia)
theorem Togo.mono {N : Nt} {gs : List Grp} {b b' : Nat} (L : Togo N gs b) (h : b ≤ b') : Togo N gs b' := let ⟨j, h1, h2⟩ := L; ⟨j, h1, by lia⟩
end Bn
end
section
set_option maxHeartbeats 4000001
namespace Bn
open PySem L2 Own
section
variable {H0 H : Hp} {l d lt lg lo : Addr} {qa : List Addr} {ts os : List Int} {gs : List Grp}
end
end Bn
end
section
set_option maxHeartbeats 4000001
namespace L2
open PySem Own
section
variable {X : Cx}
end
end L2
end
section
set_option maxHeartbeats 4000001
namespace L2
open PySem
theorem abs_g {i : Nat} {x : V} {t : TS} {D : Ends} {σ : St} {H : Hp} (h : ∀ D' : Ends, (∀ σ H, D.nx σ H → D'.nx σ H) → t D' (σ.set i (some x)) H) : gName i x σ H fun σ2 H2 => t D σ2 H2 := h D fun _ _ x => x
theorem seq_late {t u : TS} {D : Ends} {σ : St} {H : Hp} (h : ∀ D' : Ends, (∀ σ H, u D σ H → D'.nx σ H) → t D' σ H) : tSeq t u D σ H := h { D with nx := u D } fun _ _ x => x
end L2
end
section
set_option maxHeartbeats 4000001
namespace L2
open PySem Own PyProof.Rows PySem.Spec
section
variable {X : Cx}
end
end L2
namespace Bn
open PySem L2 Own
section
variable {H0 H H' : Hp} {l d lt lg lo : Addr} {qa qa' : List Addr} {ts os ts' os' : List Int} {gs gs' : List Grp}
end
end Bn
end
section
set_option maxHeartbeats 4000001
namespace Bn
open PySem L2 Own
def Nxt (gs : List Grp) (late : Prop) : Dd → Prop
  | .put _ _ => False
  | .step p => (∀ (a b : Nat) (x y : Grp), a < b → gs[a]? = some x → gs[b]? = some y → ¬ (x.lane = y.lane ∧ x.fork = y.fork)) ∧ ∃ g, gs[p]? = some g ∧ (late → ∀ x ∈ gs, g.fork ≤ x.fork)
  | .join i j => i < j ∧ ∃ x y : Grp, gs[i]? = some x ∧ gs[j]? = some y ∧ x.lane = y.lane ∧ x.fork = y.fork
theorem Nxt.ok {N : Nt} {gs : List Grp} {late : Prop} : ∀ {dd : Dd}, Nxt gs late dd → DeedOk N gs dd
  | .put _ _, h => h.elim
  | .step _, ⟨_, g, e, _⟩ => (List.getElem?_eq_some_iff.mp e).1
  | .join i j, ⟨ij, x, y, ex, ey, e1, e2⟩ => ⟨ij, (List.getElem?_eq_some_iff.mp ey).1, fun g h eg eh => by
    rw [ex] at eg; rw [ey] at eh
    obtain rfl := Option.some.inj eg
    obtain rfl := Option.some.inj eh
    exact ⟨e1, e2⟩⟩
def cf (cs : List Int) : Nat → Int := fun l => cs.getD l 0
structure Wv (N : Nt) (cs : List Int) (ts : List Int) (gs : List Grp) (os : List Int) : Prop where
  ok : ScOk N ts gs os
  cl : cs.length = N.lanes
  rw_ : ∃ T, RanW N (cf cs) T ts gs os
theorem Wv.gr {N : Nt} {cs ts os : List Int} {gs : List Grp} (h : Wv N cs ts gs os) : GrOk N gs := ⟨h.ok.gk, let ⟨_, R⟩ := h.rw_; R.on⟩
theorem Wv.zero (N : Nt) : Wv N (List.replicate N.lanes 0) (List.replicate N.forks.length 0) [] (List.replicate N.lanes 0) := by
  refine ⟨⟨List.length_replicate, fun t ht => .inl (List.eq_of_mem_replicate ht), List.length_replicate, fun g hg => absurd hg (by simp)⟩, List.length_replicate, fun _ => 0, ?_⟩
  have : cf (List.replicate N.lanes 0) = fun _ => 0 := by
    funext l
    unfold cf
    rw [List.getD_eq_getElem?_getD, List.getElem?_replicate]
    split <;> rfl
  rw [this]
  exact RanW.zero
theorem Wv.put {N : Nt} (okN : N.Ok) {cs ts os ts' os' : List Int} {gs gs' : List Grp} {lane : Nat} {m : Int} (h : Wv N cs ts gs os) (dk : DeedOk N gs (.put lane m)) (d : DoTo N ts gs os ts' gs' os' (.put lane m)) : Wv N (cs.set lane (cs.getD lane 0 + m)) ts' gs' os' ∧ gs'.length = gs.length + 1 := by
  have o := (d.ok okN h.ok dk).1
  obtain ⟨rfl, rfl, k, nx, rfl⟩ := d
  obtain ⟨T, R⟩ := h.rw_
  refine ⟨⟨o, by rw [List.length_set]; exact h.cl, T, ?_⟩, by rw [List.length_append]; rfl⟩
  have : cf (cs.set lane (cs.getD lane 0 + m)) = fun l => cf cs l + dw m lane l := by
    funext l
    unfold cf
    rw [List.getD_eq_getElem?_getD, List.getElem?_set]
    by_cases e : lane = l
    · subst e
      have := dk.1
      rw [if_pos rfl, if_pos (by have := h.cl; lia), dw_on rfl]; rfl
    · rw [if_neg e, dw_off (fun z => e z.symm), Int.add_zero, ← List.getD_eq_getElem?_getD]
  rw [this]
  exact R.put okN nx
theorem Wv.next {N : Nt} (okN : N.Ok) {cs ts os ts' os' : List Int} {gs gs' : List Grp} {late : Prop} {dd : Dd} (h : Wv N cs ts gs os) (n : Nxt gs late dd) (d : DoTo N ts gs os ts' gs' os' dd) : Wv N cs ts' gs' os' ∧ gs'.length ≤ gs.length + 1 ∧ (late → ∀ b, Togo N gs (b + 1) → Togo N gs' b) := by
  obtain ⟨o, gl⟩ := d.ok okN h.ok n.ok
  obtain ⟨T, R⟩ := h.rw_
  have gr := h.gr
  cases dd with
  | put lane m => exact n.elim
  | join i j =>
    obtain ⟨ij, x, y, ex, ey, e1, e2⟩ := n
    obtain ⟨rfl, rfl, x', y', ex', ey', rfl⟩ := d
    rw [ex] at ex'; rw [ey] at ey'
    obtain rfl := Option.some.inj ex'
    obtain rfl := Option.some.inj ey'
    have xm := List.mem_of_getElem? ex
    refine ⟨⟨o, h.cl, T, R.join ij ex ey e1.symm e2.symm rfl⟩, gl, fun _ b L => L.join (fun q hq => ?_) ?_⟩
    · rcases List.mem_append.mp hq with z | z
      · rcases List.mem_append.mp z with z | z
        · rcases List.mem_append.mp z with z | z
          · exact ⟨q, List.mem_of_mem_take z, rfl, rfl⟩
          · obtain rfl := part_mem z
            exact ⟨x, xm, rfl, rfl⟩
        · exact ⟨q, List.mem_of_mem_drop (List.mem_of_mem_take z), rfl, rfl⟩
      · exact ⟨q, List.mem_of_mem_drop z, rfl, rfl⟩
    · have jl := (List.getElem?_eq_some_iff.mp ey).1
      have p1 : (part (x.many + y.many) x.lane x.fork).length ≤ 1 := by unfold part; split <;> simp
      simp only [List.length_append, List.length_take, List.length_drop]
      lia
  | step p =>
    obtain ⟨un, g, eg, hm⟩ := n
    obtain ⟨g', eg', d⟩ := d
    rw [eg] at eg'
    obtain rfl := Option.some.inj eg'
    have gm := List.mem_of_getElem? eg
    have pl := (List.getElem?_eq_some_iff.mp eg).1
    have rest : ∀ x, x ∈ gs.take p ∨ x ∈ gs.drop (p + 1) → x ∈ gs ∧ ¬ (x.fork = g.fork ∧ x.lane = g.lane) := fun x hx => by
      rcases hx with hx | hx
      · refine ⟨List.mem_of_mem_take hx, fun z => ?_⟩
        obtain ⟨i, hi⟩ := List.mem_iff_getElem?.mp hx
        rw [List.getElem?_take] at hi
        split at hi
        · exact un i p x g (by assumption) hi eg ⟨z.2, z.1⟩
        · cases hi
      · refine ⟨List.mem_of_mem_drop hx, fun z => ?_⟩
        obtain ⟨i, hi⟩ := List.mem_iff_getElem?.mp hx
        rw [List.getElem?_drop] at hi
        exact un p (p + 1 + i) g x (by lia) eg hi ⟨z.2.symm, z.1.symm⟩
    rcases d with ⟨z, rfl, rfl, rfl⟩ | ⟨z, rfl, rfl, ms, pt, rfl⟩
    · refine ⟨⟨o, h.cl, T, R.out okN h.ok.ol eg z (gr.gk g gm).1⟩, gl, fun l b L => L.step gr gm (hm l) (fun x hx => .inr (rest x (List.mem_append.mp hx))) gl⟩
    · refine ⟨⟨o, h.cl, _, R.go okN h.ok.tl eg z pt⟩, gl, fun l b L => L.step gr gm (hm l) (fun x hx => ?_) gl⟩
      rcases List.mem_append.mp hx with y | y
      · rcases List.mem_append.mp y with y | y
        · exact .inr (rest x (.inl y))
        · refine .inl ?_
          obtain ⟨f, k1, k2, _, n1, n2, rfl⟩ := pt
          rcases List.mem_append.mp y with y | y
          · obtain rfl := part_mem y
            have := n1.from_
            show g.fork < k1; lia
          · obtain rfl := part_mem y
            have := n2.from_
            show g.fork < k2; lia
      · exact .inr (rest x (.inr y))
theorem Wv.done {N : Nt} (okN : N.Ok) {cs ts os : List Int} {gs : List Grp} (h : Wv N cs ts gs os) (e : gs = []) : ts = turnsM N cs ∧ os = endsM N cs := by
  subst e
  obtain ⟨T, R⟩ := h.rw_
  exact R.done okN h.ok.tl h.ok.ol h.cl (fun _ _ => rfl)
end Bn
end
section
set_option maxHeartbeats 4000001
namespace Bn
open PySem L2 Own
def goes (n : Nat) : Option (Nat × Nat) → Nat
  | none => 0
  | some o => n + 1 - o.2
end Bn
namespace L2
open PySem PySem.Spec PyProof.Rows Own Bn
end L2
end
section
set_option maxHeartbeats 4000001
namespace L2
open PySem PySem.Spec PyProof.Rows Own Bn
theorem lay_few : ∀ {ns : List Int}, (∀ n ∈ ns, n.natAbs < 1024) → ns.length ≤ 1000 → PyData.layable0 (.list (ns.map .int)) = true := by
  intro ns h hl
  have go : ∀ ns : List Int, (∀ n ∈ ns, n.natAbs < 1024) → PyData.canLayAll0 (ns.map .int) = true ∧ PyData.depthAll (ns.map .int) = 0 ∧ PyData.weightAll (ns.map .int) ≤ 12 * ns.length := fun ns => by
    induction ns with
    | nil => exact fun _ => ⟨rfl, rfl, Nat.le_refl _⟩
    | cons n ns ih =>
      intro h
      obtain ⟨a, b, c⟩ := ih (fun m hm => h m (List.mem_cons_of_mem _ hm))
      refine ⟨?_, ?_, ?_⟩
      · show (true && PyData.canLayAll0 (ns.map .int)) = true
        rw [a]; rfl
      · show max 0 (PyData.depthAll (ns.map .int)) = 0
        rw [b]; rfl
      · show (if n == 0 then 0 else n.natAbs.log2 + 1) + 1 + PyData.weightAll (ns.map .int) ≤ 12 * (ns.length + 1)
        have : (if n == 0 then 0 else n.natAbs.log2 + 1) ≤ 11 := by
          split
          · lia
          · rename_i z
            have n0 : n.natAbs ≠ 0 := by simpa using z
            have := (Nat.log2_lt n0 (k := 10)).mpr (h n List.mem_cons_self)
            lia
        lia
  obtain ⟨a, b, c⟩ := go ns h
  show (PyData.canLayAll0 (ns.map .int) && decide (PyData.depthAll (ns.map .int) + 1 ≤ 64) && decide (PyData.weightAll (ns.map .int) ≤ 2 ^ 20)) = true
  rw [a, b, decide_eq_true (show PyData.weightAll (ns.map .int) ≤ 2 ^ 20 by lia)]; rfl
def rIdxL : V → List V → Hp → VK → Prop := fun x vs H Q => ∃ l ns k, x = .ref l ∧ vs = [.int k] ∧ H l = some (.lst (List.map V.int ns)) ∧ k ∈ ns ∧ (∀ n ∈ ns, n.natAbs < 1024) ∧ ns.length ≤ 1000 ∧ Q (.int ((ns.idxOf k : Nat) : Int)) H
theorem mt_index {X : Cx} : MtM X "list.index" rIdxL := by
  intro pins s σ H x vs v us Q I rx rv h
  obtain ⟨l, ns, k, rfl, rfl, hH, km, sm, le, q⟩ := h
  cases rx
  obtain ⟨u, rfl, ru⟩ := rv.one
  obtain ⟨t, rfl⟩ := ru
  obtain ⟨z, its, n, r, hl, e⟩ := I.lstM hH
  refine index_list_ints ⟨_, e, rfl, n, rfl⟩ (to_ints r) (lay_few sm le) km ?_
  exact ⟨.int _, H, I.kept (t' := s.toks + 1) (fun _ _ e => e), ⟨_, rfl⟩, q⟩
section
variable {X : Cx}
theorem op_neTE (hu : X.A.units + 64 < cLine) : OpR X (compareOp .NotEq) (fun x y H Q => ∃ a b xs, x = .ref a ∧ y = .ref b ∧ SqT X.K H a xs ∧ SqT X.K H b [] ∧ Q (.bl (!xs.isEmpty)) H) := by
  intro pins s σ H x y v u Q I rx ry h
  obtain ⟨a, b, xs, rfl, rfl, ha, hb, q⟩ := h
  cases rx; cases ry
  obtain ⟨its, r1, p1, _⟩ := I.tuple ha
  obtain ⟨jts, r2, p2, _⟩ := I.tuple hb
  cases r2
  have l1 := r1.length
  refine SeqAt.RcNeAt.tuples (e := fun _ => true) p1 p2 (by lia) (fun j k1 k2 => absurd k2 (Nat.not_lt_zero _)) X.prog X.w _ _ ?_
  refine ⟨.bl (!xs.isEmpty), H, I, ?_, q⟩
  rw [all_true, List.size_toArray, ← l1]
  show Value.bool _ = Value.bool _
  cases xs <;> simp
end
end L2
end
section
set_option maxHeartbeats 4000001
namespace K20
open PySem L2 Own Bn
abbrev sNextD : Stmt := top 35
def spNextD : Sp := fun vs H Q _ => ∃ l sc tr gr ou qs ts gs os, ∃ t : Nat, vs = [.ref l, .ref sc, .int t] ∧ PkAt H l ∧ SceneAt H sc tr gr ou qs ts gs os ∧ gs ≠ [] ∧ gs.length ≤ 900 ∧ (∀ g ∈ gs, g.fork < 1000) ∧
  ∀ d dd H', Nxt gs (40 < t) dd → DeedAt H' d dd → PkAt H' l → But l H H' → Q (.ref d) H'
theorem two_eq (a b c d : Nat) : ((List.range (min 2 2)).all (fun j => eqV ([V.int a, V.int b].getD j .non) ([V.int c, V.int d].getD j .non)) && (2 : Nat) == 2) = decide (a = c ∧ b = d) := by
  show ((eqV (.int a) (.int c) && (eqV (.int b) (.int d) && true)) && true) = _
  rw [Bool.and_true, Bool.and_true]
  show (decide _ && decide _) = _
  by_cases h : a = c <;> by_cases h' : b = d <;> simp [h, h'] <;> lia
theorem forks_lc {K : PySem.W.Frag} {H : Hp} {sc tr gr ou : Addr} {qs : List V} {ts : List Int} {gs : List Grp} {os : List Int} {s0 s1 s2 s4 s5 s6 : Option V} {Q : VK} (sa : SceneAt H sc tr gr ou qs ts gs os) (gl : gs.length ≤ 900)
    (k : ∀ a H', Same H H' → H' a = some (.lst ((gs.map fun g => (g.fork : Int)).map V.int)) → Q (.ref a) H') : tLC [none] (iTup K (tVar 3)) (gName 0) tYes (tOp (rIxT K) (tVar 0) (tC (V.int 2))) [s0, s1, s2, some (.ref gr), s4, s5, s6] H Q := by
  have ql := sa.grs.len
  refine ⟨_, rfl, gr, rfl, ⟨_, SqT.of sa.gr⟩, fun l hl => ?_⟩
  refine lc_tup (K := K) (a := gr) (xs := qs) (fun i acc σ H4 => (∃ v, σ = [v]) ∧ Same H H4 ∧ H4 l = some (.lst acc) ∧ acc = ((gs.take i).map fun g => (g.fork : Int)).map V.int) ⟨⟨_, rfl⟩, same_new hl _, upd_same, rfl⟩ (fun i acc σ H4 z => ⟨z.2.2.1, SqT.of (z.2.1 _ _ sa.gr)⟩) ?_ ?_
  · rintro i x acc σ H4 hx ⟨⟨v, rfl⟩, s4, h4, rfl⟩
    obtain ⟨a, g, rfl, eg, ha⟩ := sa.grs.get hx
    have ig := (List.getElem?_eq_some_iff.mp eg).1
    refine ⟨_, rfl, a, _, _, _, rfl, rfl, SqT.of (s4 _ _ ha), rfl, h4, ?_, nx (by lia) ⟨⟨_, rfl⟩, fun b o e => ?_, upd_same, ?_⟩⟩
    · rw [List.length_map, List.length_map, List.length_take]; exact Nat.lt_of_le_of_lt (Nat.min_le_left _ _) (Nat.lt_of_lt_of_le (show i < 1000 by lia) (by decide))
    · rw [upd_ne (ne_of_none e hl)]; exact s4 b o e
    · rw [List.take_succ_eq_append_getElem ig, List.map_append, List.map_append, (List.getElem?_eq_some_iff.mp eg).2]; rfl
  · rintro acc σ H4 ⟨⟨v, rfl⟩, s4, h4, rfl⟩
    rw [ql, List.take_length] at h4
    exact k l H4 s4 h4
section
variable {P : Program} {w : World} {K : PySem.W.Frag} {mg : Str → Option Value} {base : Heap}
theorem scNd : FnScope ["_law_left_here", "_law_scene", "_law_turn", "_law_groups", "_law_k", "_law_j", "_law_at"] ["_law_left_here", "_law_scene", "_law_turn"] (defScope sNextD) := ⟨rfl, rfl, rfl, by decide +kernel, rfl, by decide +kernel, by decide +kernel⟩
theorem ok_nextd {f fK : Addr} {fd dK : FuncData} (F : Fun K "_law_next" "_law_next" sNextD f fd) (G : Mgs mg) (UK : Use P w K mg base "_law_pick" ["_law_left_here", "_law_many_here"] 1 spPick fK dK) : FnOk P w K mg base CX0 2 f fd ["_law_left_here", "_law_scene", "_law_turn"] spNextD := by
  refine F.ok scNd (fun vs H Q E h => ?_) (fun cdv A outer s H vs Q E hr h => ?_)
  · obtain ⟨l, sc, tr, gr, ou, qs, ts, gs, os, t, rfl, _⟩ := h
    rfl
  obtain ⟨l, sc, tr, gr, ou, qs, ts, gs, os, t, rfl, pk, sa, gne, gl, gf, k⟩ := h
  have hr1 : Room 1 _ := hr.mono (by decide)
  have ql := sa.grs.len
  refine ⟨_, (@pss_cons _ _ _ _ _ (@ps_set _ _ 3 _ _ _ _ scNd.nd rfl (Or.inl rfl) (@pe_ix _ _ _ _ _ _ _ ix_tup (@pv _ 1 _ _ (by rfl) (by first | exact Or.inl rfl | exact Or.inr (Or.inl rfl) | exact Or.inr (Or.inr rfl)) (by decide) (by decide)) pe_int (fun _ _ => rfl)) (by rfl) (by first | exact .inl rfl | exact .inr rfl | assumption)) (@pss_cons _ _ _ _ _ (@ps_for _ _ _ _ _ _ _ _ PassesOwn.never rfl (@pi_range1 _ _ _ _ _ _ rfl G.range (@pa_cons _ _ _ _ _ (@pe_callB _ _ _ _ _ _ _ _ _ call_len_seq (by rfl) G.len PySem.boot_len (@pa_cons _ _ _ _ _ (@pv _ 3 _ _ (by rfl) (by first | exact Or.inl rfl | exact Or.inr (Or.inl rfl) | exact Or.inr (Or.inr rfl)) (by decide) (by decide)) pa_nil (by rfl)) (by decide) (by decide) (by rfl) (by rfl)) pa_nil (by rfl)) (by rfl)) (@pg_name _ _ 4 _ scNd.nd rfl (Or.inl rfl) (by first | exact .inl rfl | exact .inr rfl | assumption)) (@pss_one _ _ _ (@ps_for _ _ _ _ _ _ _ _ PassesOwn.never rfl (@pi_range1 _ _ _ _ _ _ rfl G.range (@pa_cons _ _ _ _ _ (@pv _ 4 _ _ (by rfl) (by first | exact Or.inl rfl | exact Or.inr (Or.inl rfl) | exact Or.inr (Or.inr rfl)) (by decide) (by decide)) pa_nil (by rfl)) (by rfl)) (@pg_name _ _ 5 _ scNd.nd rfl (Or.inl rfl) (by first | exact .inl rfl | exact .inr rfl | assumption)) (@pss_one _ _ _ (@ps_if _ _ _ _ _ _ _ _ (@pt_cmpR _ _ _ _ _ _ _ _ (op_eqT hr.units0) (@pe_slice _ _ _ _ _ _ _ _ _ _ sl_tupH (@pe_ix _ _ _ _ _ _ _ ix_tup (@pv _ 3 _ _ (by rfl) (by first | exact Or.inl rfl | exact Or.inr (Or.inl rfl) | exact Or.inr (Or.inr rfl)) (by decide) (by decide)) (@pv _ 5 _ _ (by rfl) (by first | exact Or.inl rfl | exact Or.inr (Or.inl rfl) | exact Or.inr (Or.inr rfl)) (by decide) (by decide)) (fun _ _ => rfl)) (@po_some _ _ _ pe_int) po_none) (@pe_slice _ _ _ _ _ _ _ _ _ _ sl_tupH (@pe_ix _ _ _ _ _ _ _ ix_tup (@pv _ 3 _ _ (by rfl) (by first | exact Or.inl rfl | exact Or.inr (Or.inl rfl) | exact Or.inr (Or.inr rfl)) (by decide) (by decide)) (@pv _ 4 _ _ (by rfl) (by first | exact Or.inl rfl | exact Or.inr (Or.inl rfl) | exact Or.inr (Or.inr rfl)) (by decide) (by decide)) (fun _ _ => rfl)) (@po_some _ _ _ pe_int) po_none) (nomark _)) (@pss_one _ _ _ (@ps_ret _ _ _ _ (@pe_tup _ _ _ _ _ (@pa_cons _ _ _ _ _ pe_str (@pa_cons _ _ _ _ _ (@pv _ 5 _ _ (by rfl) (by first | exact Or.inl rfl | exact Or.inr (Or.inl rfl) | exact Or.inr (Or.inr rfl)) (by decide) (by decide)) (@pa_cons _ _ _ _ _ (@pv _ 4 _ _ (by rfl) (by first | exact Or.inl rfl | exact Or.inr (Or.inl rfl) | exact Or.inr (Or.inr rfl)) (by decide) (by decide)) pa_nil (by rfl)) (by rfl)) (by rfl))))) pss_nil)) (by intro _; rfl))) (by intro _; rfl)) (@pss_cons _ _ _ _ _ (@ps_set _ _ 6 _ _ _ _ scNd.nd rfl (Or.inl rfl) (@pe_call _ _ _ _ _ _ _ _ _ _ _ _ _ _ _ _ UK.ok hr1 (by rfl) UK.m UK.kp UK.b .nil pass0 (@pa_cons _ _ _ _ _ (@pv _ 0 _ _ (by rfl) (by first | exact Or.inl rfl | exact Or.inr (Or.inl rfl) | exact Or.inr (Or.inr rfl)) (by decide) (by decide)) (@pa_cons _ _ _ _ _ (@pe_callB _ _ _ _ _ _ _ _ _ call_len_seq (by rfl) G.len PySem.boot_len (@pa_cons _ _ _ _ _ (@pv _ 3 _ _ (by rfl) (by first | exact Or.inl rfl | exact Or.inr (Or.inl rfl) | exact Or.inr (Or.inr rfl)) (by decide) (by decide)) pa_nil (by rfl)) (by decide) (by decide) (by rfl) (by rfl)) pa_nil (by rfl)) (by rfl)) (by decide) (by rfl) (by rfl)) (by rfl) (by first | exact .inl rfl | exact .inr rfl | assumption)) (@pss_cons _ _ _ _ _ (@ps_if _ _ _ _ _ _ _ _ (@pt_cmpR _ _ _ _ _ _ _ _ op_gt (@pv _ 2 _ _ (by rfl) (by first | exact Or.inl rfl | exact Or.inr (Or.inl rfl) | exact Or.inr (Or.inr rfl)) (by decide) (by decide)) pe_int (nomark _)) (@pss_one _ _ _ (@ps_set _ _ 6 _ _ _ _ scNd.nd rfl (Or.inl rfl) (@pe_bm _ _ _ _ _ _ _ _ _ _ _ _ PySem.F.plainAttrs_list PySem.F.slot_list_index PySem.F.type_list_index mt_index (@pe_lc _ _ _ _ none _ _ _ _ _ _ ["_law_one"] [none] rfl (@pi_tup _ _ _ _ (@pv _ 3 _ _ (by rfl) (by first | exact Or.inl rfl | exact Or.inr (Or.inl rfl) | exact Or.inr (Or.inr rfl)) (by decide) (by decide))) (CapOk.of (by kernel_rfl)) (fun _ _ _ _ _ => (@pg_name _ _ 0 _ (show (["_law_one"] : List Str).Nodup from by decide +kernel) rfl (Or.inl rfl) (Or.inr rfl))) (fun _ _ _ _ _ => pt_none) (fun _ _ _ _ _ => (@pe_ix _ _ _ _ _ _ (rIxT K) ix_tup (@pv _ 0 _ _ (by rfl) (by first | exact Or.inl rfl | exact Or.inr (Or.inl rfl) | exact Or.inr (Or.inr rfl)) (by decide) (by decide)) pe_int (fun _ _ => rfl))) (by intro _; rfl)) (@pa_cons _ _ _ _ _ (@pe_callB _ _ _ _ _ _ _ _ _ (call_minB rfl true) (by rfl) G.min (by rfl) (@pa_cons _ _ _ _ _ (@pe_lc _ _ _ _ none _ _ _ _ _ _ ["_law_one"] [none] rfl (@pi_tup _ _ _ _ (@pv _ 3 _ _ (by rfl) (by first | exact Or.inl rfl | exact Or.inr (Or.inl rfl) | exact Or.inr (Or.inr rfl)) (by decide) (by decide))) (CapOk.of (by kernel_rfl)) (fun _ _ _ _ _ => (@pg_name _ _ 0 _ (show (["_law_one"] : List Str).Nodup from by decide +kernel) rfl (Or.inl rfl) (Or.inr rfl))) (fun _ _ _ _ _ => pt_none) (fun _ _ _ _ _ => (@pe_ix _ _ _ _ _ _ (rIxT K) ix_tup (@pv _ 0 _ _ (by rfl) (by first | exact Or.inl rfl | exact Or.inr (Or.inl rfl) | exact Or.inr (Or.inr rfl)) (by decide) (by decide)) pe_int (fun _ _ => rfl))) (by intro _; rfl)) pa_nil (by rfl)) (by decide) (by decide) (by rfl) (by rfl)) pa_nil (by rfl)) (by rfl) (by rfl) (by rfl) (by rfl) (by rfl)) (by rfl) (by first | exact .inl rfl | exact .inr rfl | assumption))) pss_nil) (@pss_one _ _ _ (@ps_ret _ _ _ _ (@pe_tup _ _ _ _ _ (@pa_cons _ _ _ _ _ pe_str (@pa_cons _ _ _ _ _ (@pv _ 6 _ _ (by rfl) (by first | exact Or.inl rfl | exact Or.inr (Or.inl rfl) | exact Or.inr (Or.inr rfl)) (by decide) (by decide)) pa_nil (by rfl)) (by rfl))))))))), ?_⟩
  refine ⟨_, rfl, sc, _, _, _, rfl, rfl, SqT.of sa.sc, rfl, ?_⟩
  refine ⟨_, rfl, gr, _, rfl, .inr (SqT.of sa.gr), _, rfl, by lia, by lia, ?_⟩
  refine for_range (lo := 0) (fun i σ H2 => (∃ v4 v5 v6, σ = [some (.ref l), some (.ref sc), some (.int t), some (.ref gr), v4, v5, v6]) ∧ Same H H2 ∧ PkAt H2 l ∧ ∀ (a b : Nat) (x y : Grp), a < b → b < i → gs[a]? = some x → gs[b]? = some y → ¬ (x.lane = y.lane ∧ x.fork = y.fork)) ⟨⟨_, _, _, rfl⟩, Same.refl _, pk, fun a b x y _ h => by lia⟩ ?_ ?_
  · rintro i σ H2 hi ⟨⟨v4, v5, v6, rfl⟩, s2, pk2, un⟩
    have il : i < gs.length := by lia
    have ei : gs[i]? = some gs[i] := List.getElem?_eq_getElem il
    obtain ⟨ai, gi, exi, egi, hai⟩ := sa.grs.get (i := i) (List.getElem?_eq_getElem (show i < qs.length by lia))
    obtain rfl := Option.some.inj (ei.symm.trans egi)
    refine ⟨_, rfl, _, rfl, by lia, by lia, ?_⟩
    refine for_range (lo := 0) (fun j σ H3 => (∃ v5 v6, σ = [some (.ref l), some (.ref sc), some (.int t), some (.ref gr), some (.int (0 + (i : Int))), v5, v6]) ∧ Same H H3 ∧ PkAt H3 l ∧ ∀ (a : Nat) (x : Grp), a < j → gs[a]? = some x → ¬ (x.lane = gs[i].lane ∧ x.fork = gs[i].fork)) ⟨⟨_, _, rfl⟩, s2, pk2, fun a x h => by lia⟩ ?_ ?_
    · rintro j σ H3 hj ⟨⟨v5, v6, rfl⟩, s3, pk3, uj⟩
      have jl : j < i := by lia
      have jg : j < gs.length := by lia
      obtain ⟨aj, gj, exj, egj, haj⟩ := sa.grs.get (i := j) (List.getElem?_eq_getElem (show j < qs.length by lia))
      have hatj : atI qs (0 + (j : Int)) = some (.ref aj) := by rw [Int.zero_add]; exact atI_nat (by rw [List.getElem?_eq_getElem (show j < qs.length by lia), exj])
      have hati : atI qs (0 + (i : Int)) = some (.ref ai) := by rw [Int.zero_add]; exact atI_nat (by rw [List.getElem?_eq_getElem (show i < qs.length by lia), exi])
      refine ⟨_, rfl, _, rfl, gr, _, _, _, rfl, rfl, SqT.of (s3 _ _ sa.gr), hatj, _, rfl, aj, _, rfl, s3 _ _ haj, fun p H4 s4 hp => ?_⟩
      refine ⟨_, rfl, _, rfl, gr, _, _, _, rfl, rfl, SqT.of (s4 _ _ (s3 _ _ sa.gr)), hati, _, rfl, ai, _, rfl, s4 _ _ (s3 _ _ hai), fun q H5 s5 hq => ?_⟩
      refine ⟨p, q, _, _, rfl, rfl, SqT.of (s5 _ _ hp), SqT.of hq, rfl, rfl, _, rfl, ?_⟩
      have ev : ((List.range (min 2 2)).all (fun j => eqV ([V.int gj.lane, V.int gj.fork].getD j .non) ([V.int gs[i].lane, V.int gs[i].fork].getD j .non)) && (2 : Nat) == 2) = decide (gj.lane = gs[i].lane ∧ gj.fork = gs[i].fork) := two_eq _ _ _ _
      show if ((List.range (min 2 2)).all (fun j => eqV ([V.int gj.lane, V.int gj.fork].getD j .non) ([V.int gs[i].lane, V.int gs[i].fork].getD j .non)) && (2 : Nat) == 2) = true then _ else _
      rw [ev]
      by_cases z : gj.lane = gs[i].lane ∧ gj.fork = gs[i].fork
      · rw [decide_eq_true z]
        refine iteT ⟨_, rfl, _, rfl, (by show 3 ≤ sizeLine; decide), fun d hd => k d (.join j i) _ ⟨jl, gj, gs[i], egj, ei, z.1, z.2⟩ ?_ ?_ ?_⟩
        · show upd H5 d (.tup [.str "join", .int (0 + (j : Int)), .int (0 + (i : Int))]) d = _
          rw [upd_same, Int.zero_add, Int.zero_add]
        · exact (pk3.keep (s4.trans s5)).upd ((pk3.keep (s4.trans s5)).ne hd)
        · exact (But.of (s3.trans (s4.trans s5))).new hd
      · rw [decide_eq_false z]
        refine iteF ⟨⟨_, _, rfl⟩, s3.trans (s4.trans s5), pk3.keep (s4.trans s5), fun a x ha ea => ?_⟩
        by_cases e : a = j
        · subst e
          obtain rfl := Option.some.inj (egj.symm.trans ea)
          exact z
        · exact uj a x (by lia) ea
    · rintro σ H3 ⟨⟨v5, v6, rfl⟩, s3, pk3, uj⟩
      refine ⟨⟨_, _, _, rfl⟩, s3, pk3, fun a b x y ab hb ea eb => ?_⟩
      by_cases e : b = i
      · subst e
        obtain rfl := Option.some.inj (ei.symm.trans eb)
        exact uj a x (by lia) ea
      · exact un a b x y ab (by lia) ea eb
  · rintro σ H2 ⟨⟨v4, v5, v6, rfl⟩, s2, pk2, un⟩
    have un' : ∀ (a b : Nat) (x y : Grp), a < b → gs[a]? = some x → gs[b]? = some y → ¬ (x.lane = y.lane ∧ x.fork = y.fork) := fun a b x y ab ea eb => un a b x y ab (by have := (List.getElem?_eq_some_iff.mp eb).1; lia) ea eb
    have gp : 0 < gs.length := List.length_pos_iff.mpr gne
    refine ⟨_, rfl, _, rfl, gr, _, rfl, .inr (SqT.of (s2 _ _ sa.gr)), l, _, rfl, by lia, by lia, pk2, fun v H3 hv pk3 b3 => ?_⟩
    have vl : v < gs.length := by lia
    have tp3 := b3.tups pk2
    refine ⟨_, rfl, _, _, rfl, rfl, _, rfl, ?_⟩
    have last : ∀ (at_ : Nat) H4, at_ < gs.length → (40 < t → ∀ g, gs[at_]? = some g → ∀ x ∈ gs, g.fork ≤ x.fork) → PkAt H4 l → But l H H4 → ∀ d, H4 d = none → Q (.ref d) (upd H4 d (.tup [.str "step", .int at_])) := fun at_ H4 al hm pk4 b4 d hd =>
      k d (.step at_) _ ⟨un', _, List.getElem?_eq_getElem al, fun z => hm z _ (List.getElem?_eq_getElem al)⟩ upd_same (pk4.upd (pk4.ne hd)) (b4.new hd)
    have b03 : But l H H3 := (But.of s2).trans b3
    by_cases z : 40 < t
    · rw [decide_eq_true (show (40 : Int) < (t : Int) by lia)]
      have sa3 := sa.tups ((Tups.of s2).trans tp3)
      refine iteT (forks_lc sa3 gl fun la H4 s4 h4 => ⟨.inl ⟨rfl, _, SqL.of h4⟩, forks_lc (sa3.tups (Tups.of s4)) gl fun lb H5 s5 h5 => ⟨lb, _, rfl, SqL.of h5, by rw [List.length_map]; exact gp, fun M hM hlo => ?_⟩⟩)
      refine ⟨la, _, M, rfl, rfl, s5 _ _ h4, hM, fun n hn => ?_, by rw [List.length_map]; lia, ?_⟩
      · obtain ⟨g, hg, rfl⟩ := List.mem_map.mp hn
        have := gf g hg
        lia
      have al := List.idxOf_lt_length_of_mem hM
      rw [List.length_map] at al
      refine ⟨_, rfl, (by show 2 ≤ sizeLine; decide), fun d hd => last _ _ al (fun _ g eg x hx => ?_) (pk3.keep (s4.trans s5)) (b03.trans (But.of (s4.trans s5))) d hd⟩
      have e1 := List.getElem_idxOf (List.idxOf_lt_length_of_mem hM)
      rw [List.getElem_map, (List.getElem?_eq_some_iff.mp eg).2] at e1
      have := hlo _ (List.mem_map.mpr ⟨x, hx, rfl⟩)
      lia
    · rw [decide_eq_false (show ¬ (40 : Int) < (t : Int) by lia)]
      refine iteF ⟨_, rfl, (by show 2 ≤ sizeLine; decide), fun d hd => last v _ vl (fun y => absurd y z) pk3 b03 d hd⟩
end
end K20
end
section
set_option maxHeartbeats 4000001
namespace K20
open PySem L2 Own Bn
abbrev sOutL : Stmt := top 36
def spOutL : Sp := fun vs H Q _ => ∃ l r fr er ps N sc tr gr ou qs ts gs os cs, vs = [.ref l, .ref r, .ref sc] ∧ PkAt H l ∧ Nt.Ok N ∧ NetAt H r fr er ps N ∧ SceneAt H sc tr gr ou qs ts gs os ∧ Wv N cs ts gs os ∧ gs.length + 2 * (2 * N.forks.length + N.lanes) ≤ 300 ∧
  ∀ sc' tr' gr' ou' H', PkAt H' l → But l H H' → Wv N cs (turnsM N cs) [] (endsM N cs) → SceneAt H' sc' tr' gr' ou' [] (turnsM N cs) [] (endsM N cs) → Q (.ref sc') H'
theorem Togo.len {N : Nt} {gs : List Grp} {b : Nat} (L : Togo N gs b) : gs.length ≤ b := by
  obtain ⟨j, _, h⟩ := L
  lia
section
variable {P : Program} {w : World} {K : PySem.W.Frag} {mg : Str → Option Value} {base : Heap}
theorem scOt : FnScope ["_law_left_here", "_law_net_here", "_law_scene", "_law_turn"] ["_law_left_here", "_law_net_here", "_law_scene"] (defScope sOutL) := ⟨rfl, rfl, rfl, by decide +kernel, rfl, by decide +kernel, by decide +kernel⟩
theorem ok_outl {f fD fN : Addr} {fd dD dN : FuncData} (F : Fun K "_law_out" "_law_out" sOutL f fd) (G : Mgs mg) (UDo : Use P w K mg base "done" ["net", "scene", "deed"] 5 spDone fD dD) (UNd : Use P w K mg base "_law_next" ["_law_left_here", "_law_scene", "_law_turn"] 2 spNextD fN dN) : FnOk P w K mg base CX0 6 f fd ["_law_left_here", "_law_net_here", "_law_scene"] spOutL := by
  refine F.ok scOt (fun vs H Q E h => ?_) (fun cdv A outer s H vs Q E hr h => ?_)
  · obtain ⟨l, r, fr, er, ps, N, sc, tr, gr, ou, qs, ts, gs, os, cs, rfl, _⟩ := h
    rfl
  obtain ⟨l, r, fr, er, ps, N, sc, tr, gr, ou, qs, ts, gs, os, cs, rfl, pk, ok, na, sa, wv, g3, k⟩ := h
  have hr2 : Room 2 _ := hr.mono (by decide)
  have hr5 : Room 5 _ := hr.mono (by decide)
  have fm := ok.fm
  refine ⟨_, (@pss_cons _ _ _ _ _ (@ps_set _ _ 3 _ _ _ _ scOt.nd rfl (Or.inl rfl) pe_int (by rfl) (by first | exact .inl rfl | exact .inr rfl | assumption)) (@pss_cons _ _ _ _ _ (@ps_while _ _ _ _ _ _ PassesOwn.never (@pw_and _ _ _ _ _ _ _ (@pt_cmpR _ _ _ _ _ _ _ _ (op_neTE hr.units) (@pe_ix _ _ _ _ _ _ _ ix_tup (@pv _ 2 _ _ (by rfl) (by first | exact Or.inl rfl | exact Or.inr (Or.inl rfl) | exact Or.inr (Or.inr rfl)) (by decide) (by decide)) pe_int (fun _ _ => rfl)) (@pe_tup _ _ _ _ _ pa_nil) (nomark _)) (@pw_and1 _ _ _ _ (@pt_cmpR _ _ _ _ _ _ _ _ op_lt (@pv _ 3 _ _ (by rfl) (by first | exact Or.inl rfl | exact Or.inr (Or.inl rfl) | exact Or.inr (Or.inr rfl)) (by decide) (by decide)) pe_int (nomark _)))).pt (@pss_cons _ _ _ _ _ (@ps_set _ _ 2 _ _ _ _ scOt.nd rfl (Or.inl rfl) (@pe_call _ _ _ _ _ _ _ _ _ _ _ _ _ _ _ _ UDo.ok hr5 (by rfl) UDo.m UDo.kp UDo.b .nil pass0 (@pa_cons _ _ _ _ _ (@pv _ 1 _ _ (by rfl) (by first | exact Or.inl rfl | exact Or.inr (Or.inl rfl) | exact Or.inr (Or.inr rfl)) (by decide) (by decide)) (@pa_cons _ _ _ _ _ (@pv _ 2 _ _ (by rfl) (by first | exact Or.inl rfl | exact Or.inr (Or.inl rfl) | exact Or.inr (Or.inr rfl)) (by decide) (by decide)) (@pa_cons _ _ _ _ _ (@pe_call _ _ _ _ _ _ _ _ _ _ _ _ _ _ _ _ UNd.ok hr2 (by rfl) UNd.m UNd.kp UNd.b .nil pass0 (@pa_cons _ _ _ _ _ (@pv _ 0 _ _ (by rfl) (by first | exact Or.inl rfl | exact Or.inr (Or.inl rfl) | exact Or.inr (Or.inr rfl)) (by decide) (by decide)) (@pa_cons _ _ _ _ _ (@pv _ 2 _ _ (by rfl) (by first | exact Or.inl rfl | exact Or.inr (Or.inl rfl) | exact Or.inr (Or.inr rfl)) (by decide) (by decide)) (@pa_cons _ _ _ _ _ (@pv _ 3 _ _ (by rfl) (by first | exact Or.inl rfl | exact Or.inr (Or.inl rfl) | exact Or.inr (Or.inr rfl)) (by decide) (by decide)) pa_nil (by rfl)) (by rfl)) (by rfl)) (by decide) (by rfl) (by rfl)) pa_nil (by rfl)) (by rfl)) (by rfl)) (by decide) (by rfl) (by rfl)) (by rfl) (by first | exact .inl rfl | exact .inr rfl | assumption)) (@pss_one _ _ _ (@ps_set _ _ 3 _ _ _ _ scOt.nd rfl (Or.inl rfl) (@pe_op _ _ _ _ _ _ _ _ op_add (@pv _ 3 _ _ (by rfl) (by first | exact Or.inl rfl | exact Or.inr (Or.inl rfl) | exact Or.inr (Or.inr rfl)) (by decide) (by decide)) pe_int) (by rfl) (by first | exact .inl rfl | exact .inr rfl | assumption))))) (@pss_one _ _ _ (@ps_ret _ _ _ _ (@pv _ 2 _ _ (by rfl) (by first | exact Or.inl rfl | exact Or.inr (Or.inl rfl) | exact Or.inr (Or.inr rfl)) (by decide) (by decide)))))), ?_⟩
  refine ⟨fun m σ H1 => ∃ t : Nat, m = 390 - t ∧ ∃ sc tr gr ou qs ts gs1 os, σ = [some (.ref l), some (.ref r), some (.ref sc), some (.int t)] ∧ PkAt H1 l ∧ But l H H1 ∧ SceneAt H1 sc tr gr ou qs ts gs1 os ∧ Wv N cs ts gs1 os ∧ (t ≤ 41 → gs1.length ≤ gs.length + t) ∧ (41 ≤ t → Togo N gs1 (gs.length + 82 + 2 * (2 * N.forks.length + N.lanes) - t)),
    ⟨_, 0, rfl, sc, tr, gr, ou, qs, ts, gs, os, rfl, pk, fun b o e _ => e, sa, wv, fun _ => Nat.le_refl _, fun z => absurd z (by lia)⟩, ?_⟩
  rintro m σ H1 ⟨t, rfl, sc, tr, gr, ou, qs, ts, gs1, os, rfl, pk1, b1, sa1, wv1, p1, p2⟩
  have tp1 := b1.tups pk
  have ql := sa1.grs.len
  refine ⟨_, rfl, sc, _, _, _, rfl, rfl, SqT.of sa1.sc, rfl, Nat.zero_le _, fun e he => ?_⟩
  have se := same_new he (.tup [])
  have pke := pk1.keep se
  have sae := sa1.tups (Tups.of se)
  have be := b1.trans (But.of se)
  refine ⟨gr, e, _, rfl, rfl, SqT.of sae.gr, SqT.of upd_same, _, rfl, ?_⟩
  generalize upd H1 e (.tup []) = H2 at pke sae be ⊢
  clear se sa1 pk1 b1 he
  have gl9 : gs1.length ≤ 900 := by
    by_cases z : t ≤ 41
    · have := p1 z; lia
    · have := Togo.len (p2 (by lia)); lia
  by_cases g0 : gs1 = []
  · subst g0
    have q0 : qs = [] := List.length_eq_zero_iff.mp ql
    subst q0
    obtain ⟨e1, e2⟩ := wv1.done ok rfl
    rw [e1, e2] at sae wv1
    exact iteF (iteF ⟨_, rfl, k sc tr gr ou H2 pke be wv1 sae⟩)
  · have q1 : (!qs.isEmpty) = true := by
      cases qs with
      | nil => exact absurd (List.length_eq_zero_iff.mp ql.symm) g0
      | cons a b => rfl
    rw [q1]
    refine iteT ⟨_, rfl, _, _, rfl, rfl, _, rfl, ?_⟩
    have t9 : t < 390 := by
      by_cases z : t < 390
      · exact z
      · exact absurd (Togo.none ((p2 (by lia)).mono (by lia))) g0
    rw [decide_eq_true (show (t : Int) < 390 by lia)]
    refine iteT ⟨_, fun σ' H' hN => ⟨390 - (t + 1), by lia, hN⟩, ?_⟩
    refine ⟨_, rfl, _, rfl, _, rfl, _, rfl, _, rfl, l, sc, tr, gr, ou, qs, ts, gs1, os, t, rfl, pke, sae, g0, gl9, fun g hg => by have := (wv1.ok.gk g hg).2; lia, fun d dd H3 nxt da pk3 b3 => ?_⟩
    have tp3 := b3.tups pke
    have sa3 := sae.tups tp3
    have na3 := na.tups ((be.tups pk).trans tp3)
    refine ⟨r, fr, er, ps, N, sc, tr, gr, ou, qs, ts, gs1, os, d, dd, rfl, ok, na3, sa3, wv1.ok, gl9, da, nxt.ok, fun sc' tr' gr' ou' qs' ts' gs' os' H4 dt s4 sa4 => ?_⟩
    obtain ⟨wv4, gl4, lf⟩ := wv1.next ok nxt dt
    refine ⟨_, rfl, _, _, rfl, rfl, t + 1, rfl, sc', tr', gr', ou', qs', ts', gs', os', rfl, pk3.keep s4, be.trans (b3.trans (But.of s4)), sa4, wv4, fun z => ?_, fun z => ?_⟩
    · have := p1 (by lia); lia
    · by_cases y : 41 ≤ t
      · refine lf (by lia) _ ((p2 y).mono ?_)
        have := Togo.len (p2 y)
        have : 0 < gs1.length := List.length_pos_iff.mpr g0
        lia
      · have t40 : t = 40 := by lia
        subst t40
        have := p1 (by lia)
        exact (Togo.first wv4.gr).mono (by lia)
end
end K20
end
section
set_option maxHeartbeats 4000001
namespace K20
open PySem L2 Own Bn
abbrev sManyL : Stmt := top 34
def spManyL : Sp := fun vs H Q _ => ∃ (l : Addr), vs = [.ref l] ∧ PkAt H l ∧ ∀ (m : Int) H', m ≠ 0 → -(10 ^ 29) < m → m < 10 ^ 29 → PkAt H' l → But l H H' → Q (.int m) H'
theorem ones_val (k : Nat) : PySem.NumText.digitsVal (49 :: List.replicate k 48) = 10 ^ k := by
  unfold PySem.NumText.digitsVal
  have go : ∀ (k acc : Nat), (List.replicate k 48).foldl (fun acc c => acc * 10 + (c - 48)) acc = acc * 10 ^ k := fun k => by
    induction k with
    | zero => intro acc; simp
    | succ k ih => intro acc; rw [List.replicate_succ, List.foldl_cons, ih, Nat.pow_succ]; simp [Nat.mul_assoc, Nat.mul_comm]
  rw [List.foldl_cons, go]; simp
section
variable {P : Program} {w : World} {K : PySem.W.Frag} {mg : Str → Option Value} {base : Heap}
theorem scMa : FnScope ["_law_left_here", "_law_far", "_law_many_here"] ["_law_left_here"] (defScope sManyL) := ⟨rfl, rfl, rfl, by decide +kernel, rfl, by decide +kernel, by decide +kernel⟩
theorem ok_manyl {f fO fK : Addr} {fd dO dK : FuncData} (F : Fun K "_law_many" "_law_many" sManyL f fd) (G : Mgs mg) (UK : Use P w K mg base "_law_pick" ["_law_left_here", "_law_many_here"] 1 spPick fK dK) (UO : Use P w K mg base "_law_of" ["_law_left_here", "_law_some"] 2 spOf fO dO) : FnOk P w K mg base CX0 3 f fd ["_law_left_here"] spManyL := by
  refine F.ok scMa (fun vs H Q E h => ?_) (fun cdv A outer s H vs Q E hr h => ?_)
  · obtain ⟨l, rfl, _⟩ := h
    rfl
  obtain ⟨l, rfl, S, k⟩ := h
  have hr1 : Room 1 _ := hr.mono (by decide)
  refine ⟨_, (@pss_cons _ _ _ _ _ (@ps_set _ _ 1 _ _ _ _ scMa.nd rfl (Or.inl rfl) (@pe_op _ _ _ _ _ _ _ _ op_add (@pe_callTy _ _ _ _ _ _ _ _ _ call_intShort (by rfl) G.int (by rfl) (@pa_cons _ _ _ _ _ (@pe_op _ _ _ _ _ _ _ _ op_add_str pe_str (@pe_op _ _ _ _ _ _ _ _ op_repS pe_str (@pe_call _ _ _ _ _ _ _ _ _ _ _ _ _ _ _ _ UK.ok hr1 (by rfl) UK.m UK.kp UK.b .nil pass0 (@pa_cons _ _ _ _ _ (@pv _ 0 _ _ (by rfl) (by first | exact Or.inl rfl | exact Or.inr (Or.inl rfl) | exact Or.inr (Or.inr rfl)) (by decide) (by decide)) (@pa_cons _ _ _ _ _ pe_int pa_nil (by rfl)) (by rfl)) (by decide) (by rfl) (by rfl)))) pa_nil (by rfl)) (by decide) (by decide) (by rfl) (by rfl)) (@pe_call _ _ _ _ _ _ _ _ _ _ _ _ _ _ _ _ UK.ok hr1 (by rfl) UK.m UK.kp UK.b .nil pass0 (@pa_cons _ _ _ _ _ (@pv _ 0 _ _ (by rfl) (by first | exact Or.inl rfl | exact Or.inr (Or.inl rfl) | exact Or.inr (Or.inr rfl)) (by decide) (by decide)) (@pa_cons _ _ _ _ _ pe_int pa_nil (by rfl)) (by rfl)) (by decide) (by rfl) (by rfl))) (by rfl) (by first | exact .inl rfl | exact .inr rfl | assumption)) (@pss_cons _ _ _ _ _ (@ps_set _ _ 2 _ _ _ _ scMa.nd rfl (Or.inl rfl) (@pe_call _ _ _ _ _ _ _ _ _ _ _ _ _ _ _ _ UO.ok hr (by rfl) UO.m UO.kp UO.b .nil pass0 (@pa_cons _ _ _ _ _ (@pv _ 0 _ _ (by rfl) (by first | exact Or.inl rfl | exact Or.inr (Or.inl rfl) | exact Or.inr (Or.inr rfl)) (by decide) (by decide)) (@pa_cons _ _ _ _ _ (@pe_lst _ _ _ _ (@pa_cons _ _ _ _ _ pe_int (@pa_cons _ _ _ _ _ pe_int (@pa_cons _ _ _ _ _ pe_int (@pa_cons _ _ _ _ _ pe_int (@pa_cons _ _ _ _ _ (@pe_op _ _ _ _ _ _ _ _ op_add pe_int (@pe_call _ _ _ _ _ _ _ _ _ _ _ _ _ _ _ _ UK.ok hr1 (by rfl) UK.m UK.kp UK.b .nil pass0 (@pa_cons _ _ _ _ _ (@pv _ 0 _ _ (by rfl) (by first | exact Or.inl rfl | exact Or.inr (Or.inl rfl) | exact Or.inr (Or.inr rfl)) (by decide) (by decide)) (@pa_cons _ _ _ _ _ pe_int pa_nil (by rfl)) (by rfl)) (by decide) (by rfl) (by rfl))) (@pa_cons _ _ _ _ _ (@pe_op _ _ _ _ _ _ _ _ op_shl pe_int (@pe_call _ _ _ _ _ _ _ _ _ _ _ _ _ _ _ _ UK.ok hr1 (by rfl) UK.m UK.kp UK.b .nil pass0 (@pa_cons _ _ _ _ _ (@pv _ 0 _ _ (by rfl) (by first | exact Or.inl rfl | exact Or.inr (Or.inl rfl) | exact Or.inr (Or.inr rfl)) (by decide) (by decide)) (@pa_cons _ _ _ _ _ pe_int pa_nil (by rfl)) (by rfl)) (by decide) (by rfl) (by rfl))) (@pa_cons _ _ _ _ _ (@pv _ 1 _ _ (by rfl) (by first | exact Or.inl rfl | exact Or.inr (Or.inl rfl) | exact Or.inr (Or.inr rfl)) (by decide) (by decide)) pa_nil (by rfl)) (by rfl)) (by rfl)) (by rfl)) (by rfl)) (by rfl)) (by rfl))) pa_nil (by rfl)) (by rfl)) (by decide) (by rfl) (by rfl)) (by rfl) (by first | exact .inl rfl | exact .inr rfl | assumption)) (@pss_one _ _ _ (@ps_ret _ _ _ _ (@pe_op _ _ _ _ _ _ _ _ op_mul (@pv _ 2 _ _ (by rfl) (by first | exact Or.inl rfl | exact Or.inr (Or.inl rfl) | exact Or.inr (Or.inr rfl)) (by decide) (by decide)) (@pe_call _ _ _ _ _ _ _ _ _ _ _ _ _ _ _ _ UO.ok hr (by rfl) UO.m UO.kp UO.b .nil pass0 (@pa_cons _ _ _ _ _ (@pv _ 0 _ _ (by rfl) (by first | exact Or.inl rfl | exact Or.inr (Or.inl rfl) | exact Or.inr (Or.inr rfl)) (by decide) (by decide)) (@pa_cons _ _ _ _ _ (@pe_lst _ _ _ _ (@pa_cons _ _ _ _ _ pe_int (@pa_cons _ _ _ _ _ pe_int (@pa_cons _ _ _ _ _ (@pe_un _ _ _ _ _ _ un_neg pe_int) pa_nil (by rfl)) (by rfl)) (by rfl))) pa_nil (by rfl)) (by rfl)) (by decide) (by rfl) (by rfl))))))), ?_⟩
  refine ⟨_, rfl, l, 29, rfl, by decide, by decide, S, fun z H1 hz S1 B1 => ?_⟩
  refine ⟨48, _, rfl, rfl, by lia, by lia, fun zs hzs => ?_⟩
  obtain ⟨d1, d2, d3⟩ := long_ok hzs
  have e : (("1" : Str) ++ zs).cps.toList = 49 :: List.replicate ((z : Nat) : Int).toNat 48 := by
    show ((("1" : Str).cps ++ zs.cps).toList) = _
    rw [Array.toList_append, hzs]; rfl
  have zl : zs.length = ((z : Nat) : Int).toNat := by
    have := congrArg List.length hzs
    rw [Array.length_toList, List.length_replicate] at this
    exact this
  refine ⟨_, _, rfl, rfl, by rw [zl]; exact Nat.le_trans (show 1 + ((z : Nat) : Int).toNat ≤ 100 by lia) (by decide), _, rfl, d1, by lia, by lia, ?_⟩
  have dv : PySem.NumText.digitsVal (("1" : Str) ++ zs).cps.toList ≤ 10 ^ 28 := by
    rw [e, ones_val]; exact Nat.pow_le_pow_right (by decide) (by lia)
  generalize PySem.NumText.digitsVal (("1" : Str) ++ zs).cps.toList = far at dv d3
  refine ⟨_, rfl, l, 5, rfl, by decide, by decide, S1, fun y H2 hy S2 B2 => ⟨_, _, rfl, rfl, ?_⟩⟩
  refine ⟨_, rfl, _, rfl, l, 9, rfl, by decide, by decide, S2, fun a H3 ha S3 B3 => ⟨_, _, rfl, rfl, ?_⟩⟩
  refine ⟨_, rfl, l, 20, rfl, by decide, by decide, S3, fun b H4 hb S4 B4 => ⟨_, _, rfl, rfl, ⟨by lia, by lia, by decide⟩, ?_⟩⟩
  refine ⟨_, rfl, (by show 7 ≤ sizeLine; decide), fun q hq => ?_⟩
  have pb : (1 : Int) * 2 ^ ((b : Nat) : Int).toNat = ((2 ^ b : Nat) : Int) := by
    rw [Int.toNat_natCast, Int.one_mul]; exact (Int.natCast_pow 2 b).symm
  have pbb : 2 ^ b ≤ 2 ^ 20 := Nat.pow_le_pow_right (by decide) (by lia)
  have pb0 : 0 < 2 ^ b := Nat.pow_pos (by decide)
  have s5 := same_new hq (.lst [.int 1, .int 1, .int 2, .int 3, .int (1 + (a : Int)), .int (1 * 2 ^ ((b : Nat) : Int).toNat), .int ((far : Int) + y)])
  refine ⟨l, q, _, rfl, S4.keep s5, (S4.ne hq).symm, upd_same, by show 0 < 7; decide, by show 7 ≤ 100000; decide, fun i x H6 hx S6 B6 => ?_⟩
  obtain ⟨m, rfl, m0, m1⟩ : ∃ m : Int, x = .int m ∧ 0 < m ∧ m < 10 ^ 29 := by
    have il : i < 7 := (List.getElem?_eq_some_iff.mp hx).1
    rcases i with _ | _ | _ | _ | _ | _ | _ | i
    · obtain rfl := Option.some.inj hx; exact ⟨_, rfl, by decide, by decide⟩
    · obtain rfl := Option.some.inj hx; exact ⟨_, rfl, by decide, by decide⟩
    · obtain rfl := Option.some.inj hx; exact ⟨_, rfl, by decide, by decide⟩
    · obtain rfl := Option.some.inj hx; exact ⟨_, rfl, by decide, by decide⟩
    · obtain rfl := Option.some.inj hx; exact ⟨_, rfl, by lia, by lia⟩
    · obtain rfl := Option.some.inj hx; exact ⟨_, rfl, by rw [pb]; lia, by rw [pb]; lia⟩
    · obtain rfl := Option.some.inj hx; exact ⟨_, rfl, by lia, by lia⟩
    · lia
  refine ⟨_, rfl, _, rfl, _, rfl, (by show 3 ≤ sizeLine; decide), fun p hp => ?_⟩
  have s7 := same_new hp (.lst [.int 1, .int 1, .int (-1)])
  refine ⟨l, p, _, rfl, S6.keep s7, (S6.ne hp).symm, upd_same, by show 0 < 3; decide, by show 3 ≤ 100000; decide, fun j u H8 hu S8 B8 => ?_⟩
  have BB : But l H H8 := (((((((B1.trans B2).trans B3).trans B4).trans (But.of s5)).trans B6).trans (But.of s7)).trans B8)
  have jl : j < 3 := (List.getElem?_eq_some_iff.mp hu).1
  rcases j with _ | _ | _ | j
  · obtain rfl := Option.some.inj hu
    exact ⟨_, _, rfl, rfl, .inr ⟨by decide, by decide⟩, k _ H8 (by lia) (by lia) (by lia) S8 BB⟩
  · obtain rfl := Option.some.inj hu
    exact ⟨_, _, rfl, rfl, .inr ⟨by decide, by decide⟩, k _ H8 (by lia) (by lia) (by lia) S8 BB⟩
  · obtain rfl := Option.some.inj hu
    exact ⟨_, _, rfl, rfl, .inr ⟨by decide, by decide⟩, k _ H8 (by lia) (by lia) (by lia) S8 BB⟩
  · lia
end
end K20
end
section
set_option maxHeartbeats 4000001
namespace Bn
open PySem L2 Own
theorem deqT {K : PySem.W.Frag} {H : Hp} {a b : Addr} {xs : List Int} (h1 : H a = some (.tup (xs.map V.int))) (h2 : H b = some (.tup (xs.map V.int))) : DEq K H 2 (.ref a) (.ref b) := by
  rcases deq_ints (K := K) h1 h2 with h | ⟨a', b', us, vs, e1, e2, p, q, r, z⟩
  · exact .inl h
  · exact .inr ⟨a', b', us, vs, e1, e2, p, q, r, fun i u v hu hv => .inl (z i u v hu hv)⟩
theorem deqS {K : PySem.W.Frag} {H : Hp} {sc tr gr ou sc' tr' gr' ou' : Addr} {qs qs' : List V} {ts os : List Int} {gs : List Grp} (a : SceneAt H sc tr gr ou qs ts gs os) (b : SceneAt H sc' tr' gr' ou' qs' ts gs os) : ∀ (i : Nat) (u v : V), [V.ref tr, V.ref gr, V.ref ou][i]? = some u → [V.ref tr', V.ref gr', V.ref ou'][i]? = some v → DEq K H 2 u v := fun i u v hu hv => by
  have il := (List.getElem?_eq_some_iff.mp hu).1
  simp only [List.length_cons, List.length_nil] at il
  rcases i with _ | _ | _ | i
  · obtain rfl := Option.some.inj hu
    obtain rfl := Option.some.inj hv
    exact deqT a.tr b.tr
  · obtain rfl := Option.some.inj hu
    obtain rfl := Option.some.inj hv
    refine .inr ⟨gr, gr', _, _, rfl, rfl, SqT.of a.gr, SqT.of b.gr, by rw [a.grs.len, b.grs.len], fun i u v hu hv => ?_⟩
    obtain ⟨x, g, rfl, eg, hx⟩ := a.grs.get hu
    obtain ⟨y, g', rfl, eg', hy⟩ := b.grs.get hv
    obtain rfl := Option.some.inj (eg.symm.trans eg')
    exact deq_ints (xs := [g.many, g.lane, g.fork]) hx hy
  · obtain rfl := Option.some.inj hu
    obtain rfl := Option.some.inj hv
    exact deqT a.ou b.ou
  · lia
end Bn
end
section
set_option maxHeartbeats 4000001
namespace K20
open PySem L2 Own Bn
abbrev sGone : Stmt := top 37
def spGone : Sp := fun vs H Q _ => ∃ l r fr er ps N sc tr gr ou ts os, vs = [.ref l, .ref r, .ref sc] ∧ PkAt H l ∧ Nt.Ok N ∧ NetAt H r fr er ps N ∧ SceneAt H sc tr gr ou [] ts [] os ∧ ScOk N ts [] os ∧ ∀ H', PkAt H' l → But l H H' → Q (.bl true) H'
section
variable {P : Program} {w : World} {K : PySem.W.Frag} {mg : Str → Option Value} {base : Heap}
theorem scGo : FnScope ["_law_left_here", "_law_net_here", "_law_scene", "_law_lane", "_law_many_here", "_law_one"] ["_law_left_here", "_law_net_here", "_law_scene"] (defScope sGone) := ⟨rfl, rfl, rfl, by decide +kernel, rfl, by decide +kernel, by decide +kernel⟩
theorem ok_gone {f fD fK fM : Addr} {fd dD dK dM : FuncData} (F : Fun K "_law_gone" "_law_gone" sGone f fd) (G : Mgs mg) (UDo : Use P w K mg base "done" ["net", "scene", "deed"] 5 spDone fD dD) (UK : Use P w K mg base "_law_pick" ["_law_left_here", "_law_many_here"] 1 spPick fK dK) (UM : Use P w K mg base "_law_many" ["_law_left_here"] 3 spManyL fM dM) : FnOk P w K mg base CX0 6 f fd ["_law_left_here", "_law_net_here", "_law_scene"] spGone := by
  refine F.ok scGo (fun vs H Q E h => ?_) (fun cdv A outer s H vs Q E hr h => ?_)
  · obtain ⟨l, r, fr, er, ps, N, sc, tr, gr, ou, ts, os, rfl, _⟩ := h
    rfl
  obtain ⟨l, r, fr, er, ps, N, sc, tr, gr, ou, ts, os, rfl, pk, ok, na, sa, sk, k⟩ := h
  have hr1 : Room 1 _ := hr.mono (by decide)
  have hr3 : Room 3 _ := hr.mono (by decide)
  have hr5 : Room 5 _ := hr.mono (by decide)
  have l16 := ok.l16
  have lp := ok.l1
  refine ⟨_, (@pss_cons _ _ _ _ _ (@ps_par _ _ 3 4 _ _ _ _ _ _ _ _ _ _ _ rfl scGo.nd rfl rfl (by decide) rfl rfl (@pa_cons _ _ _ _ _ (@pe_call _ _ _ _ _ _ _ _ _ _ _ _ _ _ _ _ UK.ok hr1 (by rfl) UK.m UK.kp UK.b .nil pass0 (@pa_cons _ _ _ _ _ (@pv _ 0 _ _ (by rfl) (by first | exact Or.inl rfl | exact Or.inr (Or.inl rfl) | exact Or.inr (Or.inr rfl)) (by decide) (by decide)) (@pa_cons _ _ _ _ _ (@pe_ix _ _ _ _ _ _ _ ix_tup (@pv _ 1 _ _ (by rfl) (by first | exact Or.inl rfl | exact Or.inr (Or.inl rfl) | exact Or.inr (Or.inr rfl)) (by decide) (by decide)) pe_int (fun _ _ => rfl)) pa_nil (by rfl)) (by rfl)) (by decide) (by rfl) (by rfl)) (@pa_cons _ _ _ _ _ (@pe_call _ _ _ _ _ _ _ _ _ _ _ _ _ _ _ _ UM.ok hr3 (by rfl) UM.m UM.kp UM.b .nil pass0 (@pa_cons _ _ _ _ _ (@pv _ 0 _ _ (by rfl) (by first | exact Or.inl rfl | exact Or.inr (Or.inl rfl) | exact Or.inr (Or.inr rfl)) (by decide) (by decide)) pa_nil (by rfl)) (by decide) (by rfl) (by rfl)) pa_nil (by rfl)) (by rfl)) (by rfl) (by rfl)) (@pss_cons _ _ _ _ _ (@ps_set _ _ 5 _ _ _ _ scGo.nd rfl (Or.inl rfl) (@pe_call _ _ _ _ _ _ _ _ _ _ _ _ _ _ _ _ UDo.ok hr5 (by rfl) UDo.m UDo.kp UDo.b .nil pass0 (@pa_cons _ _ _ _ _ (@pv _ 1 _ _ (by rfl) (by first | exact Or.inl rfl | exact Or.inr (Or.inl rfl) | exact Or.inr (Or.inr rfl)) (by decide) (by decide)) (@pa_cons _ _ _ _ _ (@pe_call _ _ _ _ _ _ _ _ _ _ _ _ _ _ _ _ UDo.ok hr5 (by rfl) UDo.m UDo.kp UDo.b .nil pass0 (@pa_cons _ _ _ _ _ (@pv _ 1 _ _ (by rfl) (by first | exact Or.inl rfl | exact Or.inr (Or.inl rfl) | exact Or.inr (Or.inr rfl)) (by decide) (by decide)) (@pa_cons _ _ _ _ _ (@pv _ 2 _ _ (by rfl) (by first | exact Or.inl rfl | exact Or.inr (Or.inl rfl) | exact Or.inr (Or.inr rfl)) (by decide) (by decide)) (@pa_cons _ _ _ _ _ (@pe_tup _ _ _ _ _ (@pa_cons _ _ _ _ _ pe_str (@pa_cons _ _ _ _ _ (@pv _ 3 _ _ (by rfl) (by first | exact Or.inl rfl | exact Or.inr (Or.inl rfl) | exact Or.inr (Or.inr rfl)) (by decide) (by decide)) (@pa_cons _ _ _ _ _ (@pv _ 4 _ _ (by rfl) (by first | exact Or.inl rfl | exact Or.inr (Or.inl rfl) | exact Or.inr (Or.inr rfl)) (by decide) (by decide)) pa_nil (by rfl)) (by rfl)) (by rfl))) pa_nil (by rfl)) (by rfl)) (by rfl)) (by decide) (by rfl) (by rfl)) (@pa_cons _ _ _ _ _ (@pe_tup _ _ _ _ _ (@pa_cons _ _ _ _ _ pe_str (@pa_cons _ _ _ _ _ (@pv _ 3 _ _ (by rfl) (by first | exact Or.inl rfl | exact Or.inr (Or.inl rfl) | exact Or.inr (Or.inr rfl)) (by decide) (by decide)) (@pa_cons _ _ _ _ _ (@pe_op _ _ _ _ _ _ _ _ op_sub pe_int (@pv _ 4 _ _ (by rfl) (by first | exact Or.inl rfl | exact Or.inr (Or.inl rfl) | exact Or.inr (Or.inr rfl)) (by decide) (by decide))) pa_nil (by rfl)) (by rfl)) (by rfl))) pa_nil (by rfl)) (by rfl)) (by rfl)) (by decide) (by rfl) (by rfl)) (by rfl) (by first | exact .inl rfl | exact .inr rfl | assumption)) (@pss_one _ _ _ (@ps_ret _ _ _ _ (@pe_cmpR _ _ _ _ _ _ _ _ (op_eqD hr.units) (@pe_call _ _ _ _ _ _ _ _ _ _ _ _ _ _ _ _ UDo.ok hr5 (by rfl) UDo.m UDo.kp UDo.b .nil pass0 (@pa_cons _ _ _ _ _ (@pv _ 1 _ _ (by rfl) (by first | exact Or.inl rfl | exact Or.inr (Or.inl rfl) | exact Or.inr (Or.inr rfl)) (by decide) (by decide)) (@pa_cons _ _ _ _ _ (@pv _ 5 _ _ (by rfl) (by first | exact Or.inl rfl | exact Or.inr (Or.inl rfl) | exact Or.inr (Or.inr rfl)) (by decide) (by decide)) (@pa_cons _ _ _ _ _ (@pe_tup _ _ _ _ _ (@pa_cons _ _ _ _ _ pe_str (@pa_cons _ _ _ _ _ pe_int (@pa_cons _ _ _ _ _ pe_int pa_nil (by rfl)) (by rfl)) (by rfl))) pa_nil (by rfl)) (by rfl)) (by rfl)) (by decide) (by rfl) (by rfl)) (@pv _ 2 _ _ (by rfl) (by first | exact Or.inl rfl | exact Or.inr (Or.inl rfl) | exact Or.inr (Or.inr rfl)) (by decide) (by decide)) (nomark _)))))), ?_⟩
  refine ⟨_, rfl, _, rfl, r, _, _, _, rfl, rfl, SqT.of na.net, rfl, l, _, rfl, by lia, by lia, pk, fun lane H1 hl pk1 b1 => ?_⟩
  refine ⟨_, rfl, l, rfl, pk1, fun m H2 m0 m1 m2 pk2 b2 => ?_⟩
  have tp2 := (b1.tups pk).trans (b2.tups pk1)
  have b02 := b1.trans b2
  have na2 := na.tups tp2
  have sa2 := sa.tups tp2
  refine ⟨_, _, rfl, ?_⟩
  refine ⟨_, rfl, _, rfl, _, rfl, _, rfl, _, rfl, (by show 3 ≤ sizeLine; decide), fun d1 hd1 => ?_⟩
  have s3 := same_new hd1 (.tup [.str "put", .int lane, .int m])
  have dl : lane < N.lanes := by lia
  refine ⟨r, fr, er, ps, N, sc, tr, gr, ou, _, ts, _, os, d1, .put lane m, rfl, ok, na2.tups (Tups.of s3), sa2.tups (Tups.of s3), sk, Nat.zero_le _, upd_same, ⟨dl, m0, m1, m2⟩, fun sc4 tr4 gr4 ou4 qs4 ts4 gs4 os4 H4 dt4 s4 sa4 => ?_⟩
  obtain ⟨sk4, _⟩ := DoTo.ok ok sk (show DeedOk N [] (.put lane m) from ⟨dl, m0, m1, m2⟩) dt4
  obtain ⟨rfl, rfl, k4, nx4, rfl⟩ := dt4
  refine ⟨_, rfl, _, rfl, _, _, rfl, rfl, (by show 3 ≤ sizeLine; decide), fun d2 hd2 => ?_⟩
  have s5 := same_new hd2 (.tup [.str "put", .int lane, .int (0 - m)])
  have mm : (0 - m ≠ 0) ∧ -(10 ^ 29) < 0 - m ∧ 0 - m < 10 ^ 29 := by lia
  refine ⟨r, fr, er, ps, N, sc4, tr4, gr4, ou4, _, _, _, _, d2, .put lane (0 - m), rfl, ok, na2.tups (Tups.of (s3.trans (s4.trans s5))), sa4.tups (Tups.of s5), sk4, by show 1 ≤ 900; decide, upd_same, ⟨dl, mm⟩, fun sc6 tr6 gr6 ou6 qs6 ts6 gs6 os6 H6 dt6 s6 sa6 => ?_⟩
  obtain ⟨sk6, _⟩ := DoTo.ok ok sk4 (show DeedOk N _ (.put lane (0 - m)) from ⟨dl, mm⟩) dt6
  obtain ⟨rfl, rfl, k6, nx6, rfl⟩ := dt6
  obtain rfl := nx4.one nx6
  refine ⟨_, rfl, _, rfl, (by show 3 ≤ sizeLine; decide), fun d3 hd3 => ?_⟩
  have s7 := same_new hd3 (.tup [.str "join", .int 0, .int 1])
  have jo : DeedOk N ([] ++ [⟨m, lane, k4⟩] ++ [⟨0 - m, lane, k4⟩]) (.join 0 1) := ⟨by decide, by show 1 < 2; decide, fun g h eg eh => by
    obtain rfl := Option.some.inj eg
    obtain rfl := Option.some.inj eh
    exact ⟨rfl, rfl⟩⟩
  refine ⟨r, fr, er, ps, N, sc6, tr6, gr6, ou6, _, _, _, _, d3, .join 0 1, rfl, ok, na2.tups (Tups.of (s3.trans (s4.trans (s5.trans (s6.trans s7))))), sa6.tups (Tups.of s7), sk6, by show 2 ≤ 900; decide, upd_same, jo, fun sc8 tr8 gr8 ou8 qs8 ts8 gs8 os8 H8 dt8 s8 sa8 => ?_⟩
  obtain ⟨rfl, rfl, g, h, eg, eh, rfl⟩ := dt8
  obtain rfl := Option.some.inj eg
  obtain rfl := Option.some.inj eh
  have s28 := s3.trans (s4.trans (s5.trans (s6.trans (s7.trans s8))))
  have e0 : (List.take 0 ([] ++ [(⟨m, lane, k4⟩ : Grp)] ++ [⟨0 - m, lane, k4⟩]) ++ part (m + (0 - m)) lane k4 ++ (List.drop (0 + 1) ([] ++ [(⟨m, lane, k4⟩ : Grp)] ++ [⟨0 - m, lane, k4⟩])).take (1 - (0 + 1)) ++ List.drop (1 + 1) ([] ++ [(⟨m, lane, k4⟩ : Grp)] ++ [⟨0 - m, lane, k4⟩])) = [] := by
    have : part (m + (0 - m)) lane k4 = [] := if_pos (by lia)
    rw [this]; rfl
  rw [e0] at sa8
  refine ⟨_, rfl, 2, sc8, sc, _, _, by decide, rfl, rfl, SqT.of sa8.sc, SqT.of (sa2.tups (Tups.of s28)).sc, rfl, deqS sa8 (sa2.tups (Tups.of s28)), k H8 (pk2.keep s28) (b02.trans (But.of s28))⟩
end
end K20
end
section
set_option maxHeartbeats 4000001
namespace K20
open PySem L2 Own Bn
abbrev sStill : Stmt := top 26
def spStill : Sp := fun vs H Q _ => ∃ sc tr gr ou qs ts gs os, vs = [.ref sc] ∧ SceneAt H sc tr gr ou qs ts gs os ∧ Q (.bl (decide (gs.length = 0))) H
section
variable {P : Program} {w : World} {K : PySem.W.Frag} {mg : Str → Option Value} {base : Heap}
theorem scSl : FnScope ["scene"] ["scene"] (defScope sStill) := ⟨rfl, rfl, rfl, by decide +kernel, rfl, by decide +kernel, by decide +kernel⟩
theorem ok_still {f : Addr} {fd : FuncData} (F : Fun K "is_still" "is_still" sStill f fd) (G : Mgs mg) : FnOk P w K mg base CX0 1 f fd ["scene"] spStill := by
  refine F.ok scSl (fun vs H Q E h => ?_) (fun cdv A outer s H vs Q E hr h => ?_)
  · obtain ⟨sc, tr, gr, ou, qs, ts, gs, os, rfl, _⟩ := h
    rfl
  obtain ⟨sc, tr, gr, ou, qs, ts, gs, os, rfl, sa, k⟩ := h
  refine ⟨_, (@pss_one _ _ _ (@ps_ret _ _ _ _ (@pe_cmpR _ _ _ _ _ _ _ _ op_eq (@pe_callB _ _ _ _ _ _ _ _ _ call_len_seq (by rfl) G.len PySem.boot_len (@pa_cons _ _ _ _ _ (@pe_ix _ _ _ _ _ _ _ ix_tup (@pv _ 0 _ _ (by rfl) (by first | exact Or.inl rfl | exact Or.inr (Or.inl rfl) | exact Or.inr (Or.inr rfl)) (by decide) (by decide)) pe_int (fun _ _ => rfl)) pa_nil (by rfl)) (by decide) (by decide) (by rfl) (by rfl)) pe_int (nomark _)))), ?_⟩
  refine ⟨_, rfl, sc, _, 1, _, rfl, rfl, SqT.of sa.sc, rfl, gr, _, rfl, .inr (SqT.of sa.gr), rfl, ?_⟩
  rw [show decide (V.int (qs.length : Int) = V.int 0) = decide (gs.length = 0) from decide_eq_decide.mpr ⟨fun h => by have := V.int.inj h; rw [sa.grs.len] at this; lia, fun h => by rw [sa.grs.len, h]; rfl⟩]
  exact k
end
end K20
end
section
set_option maxHeartbeats 4000001
namespace K20
open PySem L2 Own Bn
abbrev sLaw : Stmt := top 38
theorem sqL_but {K : PySem.W.Frag} {H H1 H2 : Hp} {a l : Addr} {xs : List V} (h : SqL K H a xs) (hl : H l = none) (s : Same H H1) (B : But l H1 H2) : SqL K H2 a xs := by
  rcases h with (h | ⟨o, h⟩) | h
  · exact .inl (.inl (B _ _ (s _ _ h) (ne_of_none h hl)))
  · exact .inl (.inr ⟨o, B _ _ (s _ _ h) (ne_of_none h hl)⟩)
  · exact .inr h
theorem set_back {cs : List Int} {i : Nat} (h : i < cs.length) (m : Int) : (cs.set i (cs.getD i 0 + m)).set i ((cs.set i (cs.getD i 0 + m)).getD i 0 + (0 - m)) = cs := by
  have e : (cs.set i (cs.getD i 0 + m)).getD i 0 = cs.getD i 0 + m := by rw [List.getD_eq_getElem?_getD, List.getElem?_set_self h]; rfl
  rw [e, List.set_set, show cs.getD i 0 + m + (0 - m) = cs.getD i 0 by lia, List.getD_eq_getElem?_getD, List.getElem?_eq_getElem h]
  exact List.set_getElem_self h
theorem set_sum : ∀ {cs : List Int} {i : Nat}, i < cs.length → ∀ m : Int, (cs.set i (cs.getD i 0 + m)).sum = cs.sum + m
  | c :: cs, 0, _, m => by show (c + m) + cs.sum = c + cs.sum + m; lia
  | c :: cs, i + 1, h, m => by
    have := set_sum (cs := cs) (i := i) (by simpa using h) m
    show c + (cs.set i (cs.getD i 0 + m)).sum = c + cs.sum + m
    lia
def spLaw (K : PySem.W.Frag) : Sp := fun vs H Q _ => ∃ (a : Addr) (ns : List Int), vs = [.ref a] ∧ SqL K H a (ns.map V.int) ∧ ns.length ≤ 63 ∧ ∀ H', Q (.bl true) H'
section
variable {P : Program} {w : World} {K : PySem.W.Frag} {mg : Str → Option Value} {base : Heap}
theorem scW : FnScope ["_law_script", "_law_k", "_law_left_here", "_law_net_here", "_law_scene", "_law_turn", "_law_lane", "_law_many_here", "_law_there", "_law_later", "_law_both"] ["_law_script"] (defScope sLaw) := ⟨rfl, rfl, rfl, by decide +kernel, rfl, by decide +kernel, by decide +kernel⟩
theorem ok_law {f fL fN fB fM fO fD fK fSt fOt fGo : Addr} {fd dL dN dB dM dO dD dK dSt dOt dGo : FuncData} (F : Fun K "law" "law" sLaw f fd) (G : Mgs mg) (UL : Use P w K mg base "_law_left" ["_law_script", "_law_k"] 2 (spLeft K) fL dL) (UN : Use P w K mg base "_law_net" ["_law_left_here", "_law_lanes", "_law_most"] 3 (spNetL 10) fN dN)
    (UBe : Use P w K mg base "begun" ["net"] 1 spBegun fB dB) (UO : Use P w K mg base "_law_of" ["_law_left_here", "_law_some"] 2 spOf fO dO) (UDo : Use P w K mg base "done" ["net", "scene", "deed"] 5 spDone fD dD) (UM : Use P w K mg base "_law_many" ["_law_left_here"] 3 spManyL fM dM)
    (UK : Use P w K mg base "_law_pick" ["_law_left_here", "_law_many_here"] 1 spPick fK dK) (USt : Use P w K mg base "is_still" ["scene"] 1 spStill fSt dSt) (UOt : Use P w K mg base "_law_out" ["_law_left_here", "_law_net_here", "_law_scene"] 6 spOutL fOt dOt) (UGo : Use P w K mg base "_law_gone" ["_law_left_here", "_law_net_here", "_law_scene"] 6 spGone fGo dGo) : FnOk P w K mg base CX0 7 f fd ["_law_script"] (spLaw K) := by
  refine F.ok scW (fun vs H Q E h => ?_) (fun cdv A outer s H vs Q E hr h => ?_)
  · obtain ⟨a, ns, rfl, _⟩ := h
    rfl
  obtain ⟨a, ns, rfl, hS, h63, k⟩ := h
  have hr1 : Room 1 _ := hr.mono (by decide)
  have hr2 : Room 2 _ := hr.mono (by decide)
  have hr3 : Room 3 _ := hr.mono (by decide)
  have hr5 : Room 5 _ := hr.mono (by decide)
  have hr6 : Room 6 _ := hr.mono (by decide)
  refine ⟨_, (@pss_cons _ _ _ _ _ (@ps_for _ _ _ _ _ _ _ _ PassesOwn.never rfl (@pi_range1 _ _ _ _ _ _ rfl G.range (@pa_cons _ _ _ _ _ (@pe_callB _ _ _ _ _ _ _ _ _ (call_max2 rfl) (by rfl) G.max (by rfl) (@pa_cons _ _ _ _ _ pe_int (@pa_cons _ _ _ _ _ (@pe_callB _ _ _ _ _ _ _ _ _ (call_min2 rfl) (by rfl) G.min (by rfl) (@pa_cons _ _ _ _ _ pe_int (@pa_cons _ _ _ _ _ (@pe_callB _ _ _ _ _ _ _ _ _ call_len_seq (by rfl) G.len PySem.boot_len (@pa_cons _ _ _ _ _ (@pv _ 0 _ _ (by rfl) (by first | exact Or.inl rfl | exact Or.inr (Or.inl rfl) | exact Or.inr (Or.inr rfl)) (by decide) (by decide)) pa_nil (by rfl)) (by decide) (by decide) (by rfl) (by rfl)) pa_nil (by rfl)) (by rfl)) (by decide) (by decide) (by rfl) (by rfl)) pa_nil (by rfl)) (by rfl)) (by decide) (by decide) (by rfl) (by rfl)) pa_nil (by rfl)) (by rfl)) (@pg_name _ _ 1 _ scW.nd rfl (Or.inl rfl) (by first | exact .inl rfl | exact .inr rfl | assumption)) (@pss_cons _ _ _ _ _ (@ps_set _ _ 2 _ _ _ _ scW.nd rfl (Or.inl rfl) (@pe_call _ _ _ _ _ _ _ _ _ _ _ _ _ _ _ _ UL.ok hr2 (by rfl) UL.m UL.kp UL.b .nil pass0 (@pa_cons _ _ _ _ _ (@pv _ 0 _ _ (by rfl) (by first | exact Or.inl rfl | exact Or.inr (Or.inl rfl) | exact Or.inr (Or.inr rfl)) (by decide) (by decide)) (@pa_cons _ _ _ _ _ (@pv _ 1 _ _ (by rfl) (by first | exact Or.inl rfl | exact Or.inr (Or.inl rfl) | exact Or.inr (Or.inr rfl)) (by decide) (by decide)) pa_nil (by rfl)) (by rfl)) (by decide) (by rfl) (by rfl)) (by rfl) (by first | exact .inl rfl | exact .inr rfl | assumption)) (@pss_cons _ _ _ _ _ (@ps_set _ _ 3 _ _ _ _ scW.nd rfl (Or.inl rfl) (@pe_call _ _ _ _ _ _ _ _ _ _ _ _ _ _ _ _ UN.ok hr3 (by rfl) UN.m UN.kp UN.b .nil pass0 (@pa_cons _ _ _ _ _ (@pv _ 2 _ _ (by rfl) (by first | exact Or.inl rfl | exact Or.inr (Or.inl rfl) | exact Or.inr (Or.inr rfl)) (by decide) (by decide)) (@pa_cons _ _ _ _ _ (@pe_call _ _ _ _ _ _ _ _ _ _ _ _ _ _ _ _ UO.ok hr2 (by rfl) UO.m UO.kp UO.b .nil pass0 (@pa_cons _ _ _ _ _ (@pv _ 2 _ _ (by rfl) (by first | exact Or.inl rfl | exact Or.inr (Or.inl rfl) | exact Or.inr (Or.inr rfl)) (by decide) (by decide)) (@pa_cons _ _ _ _ _ (@pe_lst _ _ _ _ (@pa_cons _ _ _ _ _ pe_int (@pa_cons _ _ _ _ _ pe_int (@pa_cons _ _ _ _ _ pe_int (@pa_cons _ _ _ _ _ pe_int (@pa_cons _ _ _ _ _ pe_int pa_nil (by rfl)) (by rfl)) (by rfl)) (by rfl)) (by rfl))) pa_nil (by rfl)) (by rfl)) (by decide) (by rfl) (by rfl)) (@pa_cons _ _ _ _ _ pe_int pa_nil (by rfl)) (by rfl)) (by rfl)) (by decide) (by rfl) (by rfl)) (by rfl) (by first | exact .inl rfl | exact .inr rfl | assumption)) (@pss_cons _ _ _ _ _ (@ps_set _ _ 4 _ _ _ _ scW.nd rfl (Or.inl rfl) (@pe_call _ _ _ _ _ _ _ _ _ _ _ _ _ _ _ _ UBe.ok hr1 (by rfl) UBe.m UBe.kp UBe.b .nil pass0 (@pa_cons _ _ _ _ _ (@pv _ 3 _ _ (by rfl) (by first | exact Or.inl rfl | exact Or.inr (Or.inl rfl) | exact Or.inr (Or.inr rfl)) (by decide) (by decide)) pa_nil (by rfl)) (by decide) (by rfl) (by rfl)) (by rfl) (by first | exact .inl rfl | exact .inr rfl | assumption)) (@pss_cons _ _ _ _ _ (@ps_for _ _ _ _ _ _ _ _ PassesOwn.never rfl (@pi_range1 _ _ _ _ _ _ rfl G.range (@pa_cons _ _ _ _ _ (@pe_call _ _ _ _ _ _ _ _ _ _ _ _ _ _ _ _ UK.ok hr1 (by rfl) UK.m UK.kp UK.b .nil pass0 (@pa_cons _ _ _ _ _ (@pv _ 2 _ _ (by rfl) (by first | exact Or.inl rfl | exact Or.inr (Or.inl rfl) | exact Or.inr (Or.inr rfl)) (by decide) (by decide)) (@pa_cons _ _ _ _ _ pe_int pa_nil (by rfl)) (by rfl)) (by decide) (by rfl) (by rfl)) pa_nil (by rfl)) (by rfl)) (@pg_name _ _ 5 _ scW.nd rfl (Or.inl rfl) (by first | exact .inl rfl | exact .inr rfl | assumption)) (@pss_one _ _ _ (@ps_set _ _ 4 _ _ _ _ scW.nd rfl (Or.inl rfl) (@pe_call _ _ _ _ _ _ _ _ _ _ _ _ _ _ _ _ UDo.ok hr5 (by rfl) UDo.m UDo.kp UDo.b .nil pass0 (@pa_cons _ _ _ _ _ (@pv _ 3 _ _ (by rfl) (by first | exact Or.inl rfl | exact Or.inr (Or.inl rfl) | exact Or.inr (Or.inr rfl)) (by decide) (by decide)) (@pa_cons _ _ _ _ _ (@pv _ 4 _ _ (by rfl) (by first | exact Or.inl rfl | exact Or.inr (Or.inl rfl) | exact Or.inr (Or.inr rfl)) (by decide) (by decide)) (@pa_cons _ _ _ _ _ (@pe_tup _ _ _ _ _ (@pa_cons _ _ _ _ _ pe_str (@pa_cons _ _ _ _ _ (@pe_call _ _ _ _ _ _ _ _ _ _ _ _ _ _ _ _ UK.ok hr1 (by rfl) UK.m UK.kp UK.b .nil pass0 (@pa_cons _ _ _ _ _ (@pv _ 2 _ _ (by rfl) (by first | exact Or.inl rfl | exact Or.inr (Or.inl rfl) | exact Or.inr (Or.inr rfl)) (by decide) (by decide)) (@pa_cons _ _ _ _ _ (@pe_ix _ _ _ _ _ _ _ ix_tup (@pv _ 3 _ _ (by rfl) (by first | exact Or.inl rfl | exact Or.inr (Or.inl rfl) | exact Or.inr (Or.inr rfl)) (by decide) (by decide)) pe_int (fun _ _ => rfl)) pa_nil (by rfl)) (by rfl)) (by decide) (by rfl) (by rfl)) (@pa_cons _ _ _ _ _ (@pe_call _ _ _ _ _ _ _ _ _ _ _ _ _ _ _ _ UM.ok hr3 (by rfl) UM.m UM.kp UM.b .nil pass0 (@pa_cons _ _ _ _ _ (@pv _ 2 _ _ (by rfl) (by first | exact Or.inl rfl | exact Or.inr (Or.inl rfl) | exact Or.inr (Or.inr rfl)) (by decide) (by decide)) pa_nil (by rfl)) (by decide) (by rfl) (by rfl)) pa_nil (by rfl)) (by rfl)) (by rfl))) pa_nil (by rfl)) (by rfl)) (by rfl)) (by decide) (by rfl) (by rfl)) (by rfl) (by first | exact .inl rfl | exact .inr rfl | assumption))) (by intro _; rfl)) (@pss_cons _ _ _ _ _ (@ps_set _ _ 4 _ _ _ _ scW.nd rfl (Or.inl rfl) (@pe_call _ _ _ _ _ _ _ _ _ _ _ _ _ _ _ _ UOt.ok hr6 (by rfl) UOt.m UOt.kp UOt.b .nil pass0 (@pa_cons _ _ _ _ _ (@pv _ 2 _ _ (by rfl) (by first | exact Or.inl rfl | exact Or.inr (Or.inl rfl) | exact Or.inr (Or.inr rfl)) (by decide) (by decide)) (@pa_cons _ _ _ _ _ (@pv _ 3 _ _ (by rfl) (by first | exact Or.inl rfl | exact Or.inr (Or.inl rfl) | exact Or.inr (Or.inr rfl)) (by decide) (by decide)) (@pa_cons _ _ _ _ _ (@pv _ 4 _ _ (by rfl) (by first | exact Or.inl rfl | exact Or.inr (Or.inl rfl) | exact Or.inr (Or.inr rfl)) (by decide) (by decide)) pa_nil (by rfl)) (by rfl)) (by rfl)) (by decide) (by rfl) (by rfl)) (by rfl) (by first | exact .inl rfl | exact .inr rfl | assumption)) (@pss_cons _ _ _ _ _ (@ps_par _ _ 6 7 _ _ _ _ _ _ _ _ _ _ _ rfl scW.nd rfl rfl (by decide) rfl rfl (@pa_cons _ _ _ _ _ (@pe_call _ _ _ _ _ _ _ _ _ _ _ _ _ _ _ _ UK.ok hr1 (by rfl) UK.m UK.kp UK.b .nil pass0 (@pa_cons _ _ _ _ _ (@pv _ 2 _ _ (by rfl) (by first | exact Or.inl rfl | exact Or.inr (Or.inl rfl) | exact Or.inr (Or.inr rfl)) (by decide) (by decide)) (@pa_cons _ _ _ _ _ (@pe_ix _ _ _ _ _ _ _ ix_tup (@pv _ 3 _ _ (by rfl) (by first | exact Or.inl rfl | exact Or.inr (Or.inl rfl) | exact Or.inr (Or.inr rfl)) (by decide) (by decide)) pe_int (fun _ _ => rfl)) pa_nil (by rfl)) (by rfl)) (by decide) (by rfl) (by rfl)) (@pa_cons _ _ _ _ _ (@pe_call _ _ _ _ _ _ _ _ _ _ _ _ _ _ _ _ UM.ok hr3 (by rfl) UM.m UM.kp UM.b .nil pass0 (@pa_cons _ _ _ _ _ (@pv _ 2 _ _ (by rfl) (by first | exact Or.inl rfl | exact Or.inr (Or.inl rfl) | exact Or.inr (Or.inr rfl)) (by decide) (by decide)) pa_nil (by rfl)) (by decide) (by rfl) (by rfl)) pa_nil (by rfl)) (by rfl)) (by rfl) (by rfl)) (@pss_cons _ _ _ _ _ (@ps_set _ _ 8 _ _ _ _ scW.nd rfl (Or.inl rfl) (@pe_call _ _ _ _ _ _ _ _ _ _ _ _ _ _ _ _ UOt.ok hr6 (by rfl) UOt.m UOt.kp UOt.b .nil pass0 (@pa_cons _ _ _ _ _ (@pv _ 2 _ _ (by rfl) (by first | exact Or.inl rfl | exact Or.inr (Or.inl rfl) | exact Or.inr (Or.inr rfl)) (by decide) (by decide)) (@pa_cons _ _ _ _ _ (@pv _ 3 _ _ (by rfl) (by first | exact Or.inl rfl | exact Or.inr (Or.inl rfl) | exact Or.inr (Or.inr rfl)) (by decide) (by decide)) (@pa_cons _ _ _ _ _ (@pe_call _ _ _ _ _ _ _ _ _ _ _ _ _ _ _ _ UDo.ok hr5 (by rfl) UDo.m UDo.kp UDo.b .nil pass0 (@pa_cons _ _ _ _ _ (@pv _ 3 _ _ (by rfl) (by first | exact Or.inl rfl | exact Or.inr (Or.inl rfl) | exact Or.inr (Or.inr rfl)) (by decide) (by decide)) (@pa_cons _ _ _ _ _ (@pv _ 4 _ _ (by rfl) (by first | exact Or.inl rfl | exact Or.inr (Or.inl rfl) | exact Or.inr (Or.inr rfl)) (by decide) (by decide)) (@pa_cons _ _ _ _ _ (@pe_tup _ _ _ _ _ (@pa_cons _ _ _ _ _ pe_str (@pa_cons _ _ _ _ _ (@pv _ 6 _ _ (by rfl) (by first | exact Or.inl rfl | exact Or.inr (Or.inl rfl) | exact Or.inr (Or.inr rfl)) (by decide) (by decide)) (@pa_cons _ _ _ _ _ (@pv _ 7 _ _ (by rfl) (by first | exact Or.inl rfl | exact Or.inr (Or.inl rfl) | exact Or.inr (Or.inr rfl)) (by decide) (by decide)) pa_nil (by rfl)) (by rfl)) (by rfl))) pa_nil (by rfl)) (by rfl)) (by rfl)) (by decide) (by rfl) (by rfl)) pa_nil (by rfl)) (by rfl)) (by rfl)) (by decide) (by rfl) (by rfl)) (by rfl) (by first | exact .inl rfl | exact .inr rfl | assumption)) (@pss_cons _ _ _ _ _ (@ps_set _ _ 9 _ _ _ _ scW.nd rfl (Or.inl rfl) (@pe_call _ _ _ _ _ _ _ _ _ _ _ _ _ _ _ _ UOt.ok hr6 (by rfl) UOt.m UOt.kp UOt.b .nil pass0 (@pa_cons _ _ _ _ _ (@pv _ 2 _ _ (by rfl) (by first | exact Or.inl rfl | exact Or.inr (Or.inl rfl) | exact Or.inr (Or.inr rfl)) (by decide) (by decide)) (@pa_cons _ _ _ _ _ (@pv _ 3 _ _ (by rfl) (by first | exact Or.inl rfl | exact Or.inr (Or.inl rfl) | exact Or.inr (Or.inr rfl)) (by decide) (by decide)) (@pa_cons _ _ _ _ _ (@pe_call _ _ _ _ _ _ _ _ _ _ _ _ _ _ _ _ UDo.ok hr5 (by rfl) UDo.m UDo.kp UDo.b .nil pass0 (@pa_cons _ _ _ _ _ (@pv _ 3 _ _ (by rfl) (by first | exact Or.inl rfl | exact Or.inr (Or.inl rfl) | exact Or.inr (Or.inr rfl)) (by decide) (by decide)) (@pa_cons _ _ _ _ _ (@pv _ 8 _ _ (by rfl) (by first | exact Or.inl rfl | exact Or.inr (Or.inl rfl) | exact Or.inr (Or.inr rfl)) (by decide) (by decide)) (@pa_cons _ _ _ _ _ (@pe_tup _ _ _ _ _ (@pa_cons _ _ _ _ _ pe_str (@pa_cons _ _ _ _ _ (@pv _ 6 _ _ (by rfl) (by first | exact Or.inl rfl | exact Or.inr (Or.inl rfl) | exact Or.inr (Or.inr rfl)) (by decide) (by decide)) (@pa_cons _ _ _ _ _ (@pe_op _ _ _ _ _ _ _ _ op_sub pe_int (@pv _ 7 _ _ (by rfl) (by first | exact Or.inl rfl | exact Or.inr (Or.inl rfl) | exact Or.inr (Or.inr rfl)) (by decide) (by decide))) pa_nil (by rfl)) (by rfl)) (by rfl))) pa_nil (by rfl)) (by rfl)) (by rfl)) (by decide) (by rfl) (by rfl)) pa_nil (by rfl)) (by rfl)) (by rfl)) (by decide) (by rfl) (by rfl)) (by rfl) (by first | exact .inl rfl | exact .inr rfl | assumption)) (@pss_cons _ _ _ _ _ (@ps_if _ _ _ _ _ _ _ _ (@pw_or _ _ _ _ _ _ _ (@pt_cmpR _ _ _ _ _ _ _ _ (op_neD hr.units) (@pe_ix _ _ _ _ _ _ _ ix_tup (@pv _ 4 _ _ (by rfl) (by first | exact Or.inl rfl | exact Or.inr (Or.inl rfl) | exact Or.inr (Or.inr rfl)) (by decide) (by decide)) pe_int (fun _ _ => rfl)) (@pe_tup _ _ _ _ _ pa_nil) (nomark _)) (@pw_or _ _ _ _ _ _ _ (@pt_cmpR _ _ _ _ _ _ _ _ (op_neD hr.units) (@pe_ix _ _ _ _ _ _ _ ix_tup (@pv _ 8 _ _ (by rfl) (by first | exact Or.inl rfl | exact Or.inr (Or.inl rfl) | exact Or.inr (Or.inr rfl)) (by decide) (by decide)) pe_int (fun _ _ => rfl)) (@pe_tup _ _ _ _ _ pa_nil) (nomark _)) (@pw_or _ _ _ _ _ _ _ (@pt_cmpR _ _ _ _ _ _ _ _ (op_neD hr.units) (@pv _ 9 _ _ (by rfl) (by first | exact Or.inl rfl | exact Or.inr (Or.inl rfl) | exact Or.inr (Or.inr rfl)) (by decide) (by decide)) (@pv _ 4 _ _ (by rfl) (by first | exact Or.inl rfl | exact Or.inr (Or.inl rfl) | exact Or.inr (Or.inr rfl)) (by decide) (by decide)) (nomark _)) (@pw_or1 _ _ _ _ (@pt_cmpR _ _ _ _ _ _ _ _ op_notB (@pe_call _ _ _ _ _ _ _ _ _ _ _ _ _ _ _ _ USt.ok hr1 (by rfl) USt.m USt.kp USt.b .nil pass0 (@pa_cons _ _ _ _ _ (@pv _ 9 _ _ (by rfl) (by first | exact Or.inl rfl | exact Or.inr (Or.inl rfl) | exact Or.inr (Or.inr rfl)) (by decide) (by decide)) pa_nil (by rfl)) (by decide) (by rfl) (by rfl)) pe_bl (by rfl)))))).pt (@pss_one _ _ _ (@ps_ret _ _ _ _ pe_bl)) pss_nil) (@pss_cons _ _ _ _ _ (@ps_set _ _ 10 _ _ _ _ scW.nd rfl (Or.inl rfl) (@pe_call _ _ _ _ _ _ _ _ _ _ _ _ _ _ _ _ UDo.ok hr5 (by rfl) UDo.m UDo.kp UDo.b .nil pass0 (@pa_cons _ _ _ _ _ (@pv _ 3 _ _ (by rfl) (by first | exact Or.inl rfl | exact Or.inr (Or.inl rfl) | exact Or.inr (Or.inr rfl)) (by decide) (by decide)) (@pa_cons _ _ _ _ _ (@pe_call _ _ _ _ _ _ _ _ _ _ _ _ _ _ _ _ UDo.ok hr5 (by rfl) UDo.m UDo.kp UDo.b .nil pass0 (@pa_cons _ _ _ _ _ (@pv _ 3 _ _ (by rfl) (by first | exact Or.inl rfl | exact Or.inr (Or.inl rfl) | exact Or.inr (Or.inr rfl)) (by decide) (by decide)) (@pa_cons _ _ _ _ _ (@pv _ 4 _ _ (by rfl) (by first | exact Or.inl rfl | exact Or.inr (Or.inl rfl) | exact Or.inr (Or.inr rfl)) (by decide) (by decide)) (@pa_cons _ _ _ _ _ (@pe_tup _ _ _ _ _ (@pa_cons _ _ _ _ _ pe_str (@pa_cons _ _ _ _ _ (@pv _ 6 _ _ (by rfl) (by first | exact Or.inl rfl | exact Or.inr (Or.inl rfl) | exact Or.inr (Or.inr rfl)) (by decide) (by decide)) (@pa_cons _ _ _ _ _ (@pv _ 7 _ _ (by rfl) (by first | exact Or.inl rfl | exact Or.inr (Or.inl rfl) | exact Or.inr (Or.inr rfl)) (by decide) (by decide)) pa_nil (by rfl)) (by rfl)) (by rfl))) pa_nil (by rfl)) (by rfl)) (by rfl)) (by decide) (by rfl) (by rfl)) (@pa_cons _ _ _ _ _ (@pe_tup _ _ _ _ _ (@pa_cons _ _ _ _ _ pe_str (@pa_cons _ _ _ _ _ (@pv _ 6 _ _ (by rfl) (by first | exact Or.inl rfl | exact Or.inr (Or.inl rfl) | exact Or.inr (Or.inr rfl)) (by decide) (by decide)) (@pa_cons _ _ _ _ _ (@pe_op _ _ _ _ _ _ _ _ op_sub pe_int (@pv _ 7 _ _ (by rfl) (by first | exact Or.inl rfl | exact Or.inr (Or.inl rfl) | exact Or.inr (Or.inr rfl)) (by decide) (by decide))) pa_nil (by rfl)) (by rfl)) (by rfl))) pa_nil (by rfl)) (by rfl)) (by rfl)) (by decide) (by rfl) (by rfl)) (by rfl) (by first | exact .inl rfl | exact .inr rfl | assumption)) (@pss_cons _ _ _ _ _ (@ps_if _ _ _ _ _ _ _ _ (@pw_or _ _ _ _ _ _ _ (@pt_cmpR _ _ _ _ _ _ _ _ (op_neD hr.units) (@pe_call _ _ _ _ _ _ _ _ _ _ _ _ _ _ _ _ UOt.ok hr6 (by rfl) UOt.m UOt.kp UOt.b .nil pass0 (@pa_cons _ _ _ _ _ (@pv _ 2 _ _ (by rfl) (by first | exact Or.inl rfl | exact Or.inr (Or.inl rfl) | exact Or.inr (Or.inr rfl)) (by decide) (by decide)) (@pa_cons _ _ _ _ _ (@pv _ 3 _ _ (by rfl) (by first | exact Or.inl rfl | exact Or.inr (Or.inl rfl) | exact Or.inr (Or.inr rfl)) (by decide) (by decide)) (@pa_cons _ _ _ _ _ (@pv _ 10 _ _ (by rfl) (by first | exact Or.inl rfl | exact Or.inr (Or.inl rfl) | exact Or.inr (Or.inr rfl)) (by decide) (by decide)) pa_nil (by rfl)) (by rfl)) (by rfl)) (by decide) (by rfl) (by rfl)) (@pv _ 4 _ _ (by rfl) (by first | exact Or.inl rfl | exact Or.inr (Or.inl rfl) | exact Or.inr (Or.inr rfl)) (by decide) (by decide)) (nomark _)) (@pw_or1 _ _ _ _ (@pt_not _ _ _ _ (@pt_truth _ _ _ (@pe_call _ _ _ _ _ _ _ _ _ _ _ _ _ _ _ _ UGo.ok hr6 (by rfl) UGo.m UGo.kp UGo.b .nil pass0 (@pa_cons _ _ _ _ _ (@pv _ 2 _ _ (by rfl) (by first | exact Or.inl rfl | exact Or.inr (Or.inl rfl) | exact Or.inr (Or.inr rfl)) (by decide) (by decide)) (@pa_cons _ _ _ _ _ (@pv _ 3 _ _ (by rfl) (by first | exact Or.inl rfl | exact Or.inr (Or.inl rfl) | exact Or.inr (Or.inr rfl)) (by decide) (by decide)) (@pa_cons _ _ _ _ _ (@pv _ 4 _ _ (by rfl) (by first | exact Or.inl rfl | exact Or.inr (Or.inl rfl) | exact Or.inr (Or.inr rfl)) (by decide) (by decide)) pa_nil (by rfl)) (by rfl)) (by rfl)) (by decide) (by rfl) (by rfl)) (fun _ => rfl))))).pt (@pss_one _ _ _ (@ps_ret _ _ _ _ pe_bl)) pss_nil) (@pss_one _ _ _ (@ps_if _ _ _ _ _ _ _ _ (@pt_cmpR _ _ _ _ _ _ _ _ op_ne (@pe_callB _ _ _ _ _ _ _ _ _ (call_sumB rfl false) (by rfl) G.sum (by rfl) (@pa_cons _ _ _ _ _ (@pe_ix _ _ _ _ _ _ _ ix_tup (@pv _ 8 _ _ (by rfl) (by first | exact Or.inl rfl | exact Or.inr (Or.inl rfl) | exact Or.inr (Or.inr rfl)) (by decide) (by decide)) pe_int (fun _ _ => rfl)) pa_nil (by rfl)) (by decide) (by decide) (by rfl) (by rfl)) (@pe_op _ _ _ _ _ _ _ _ op_add (@pe_callB _ _ _ _ _ _ _ _ _ (call_sumB rfl false) (by rfl) G.sum (by rfl) (@pa_cons _ _ _ _ _ (@pe_ix _ _ _ _ _ _ _ ix_tup (@pv _ 4 _ _ (by rfl) (by first | exact Or.inl rfl | exact Or.inr (Or.inl rfl) | exact Or.inr (Or.inr rfl)) (by decide) (by decide)) pe_int (fun _ _ => rfl)) pa_nil (by rfl)) (by decide) (by decide) (by rfl) (by rfl)) (@pv _ 7 _ _ (by rfl) (by first | exact Or.inl rfl | exact Or.inr (Or.inl rfl) | exact Or.inr (Or.inr rfl)) (by decide) (by decide))) (nomark _)) (@pss_one _ _ _ (@ps_ret _ _ _ _ pe_bl)) pss_nil))))))))))))) (by intro _; rfl)) (@pss_one _ _ _ (@ps_ret _ _ _ _ pe_bl))), ?_⟩
  refine ⟨_, rfl, a, _, rfl, .inl hS, _, _, rfl, _, _, rfl, _, rfl, ?_, ?_, ?_⟩
  · split <;> split <;> lia
  · rw [List.length_map]; split <;> split <;> lia
  refine for_range (lo := 0) (fun i σ H2 => (∃ v1 v2 v3 v4 v5 v6 v7 v8 v9 v10, σ = [some (.ref a), v1, v2, v3, v4, v5, v6, v7, v8, v9, v10]) ∧ SqL K H2 a (ns.map V.int)) ⟨⟨_, _, _, _, _, _, _, _, _, _, rfl⟩, hS⟩ ?_ (fun σ H2 _ => k H2)
  rintro i σ H2 hi ⟨⟨v1, v2, v3, v4, v5, v6, v7, v8, v9, v10, rfl⟩, hS2⟩
  refine abs_g (fun D1 hD1 => ?_)
  have ib : i < 31 := by
    have : (if (if ((ns.map V.int).length : Int) < 8 then ((ns.map V.int).length : Int) else 8) > 1 then (if ((ns.map V.int).length : Int) < 8 then ((ns.map V.int).length : Int) else 8) else 1) ≤ 30 := by split <;> split <;> lia
    lia
  clear hi
  refine seq_late (fun Da hDa => ?_)
  refine ⟨_, rfl, _, rfl, a, ns, _, rfl, hS2, h63, by lia, by lia, fun l H3 hl s3 S3 => hDa _ _ ?_⟩
  clear hDa
  refine seq_late (fun Db hDb => ?_)
  refine ⟨_, rfl, _, rfl, (by show 5 ≤ sizeLine; decide), fun q hq => ?_⟩
  have s3' := same_new hq (.lst [.int 1, .int 2, .int 3, .int 4, .int 6])
  refine ⟨l, q, _, rfl, S3.keep s3', (S3.ne hq).symm, upd_same, by show 0 < 5; decide, by show 5 ≤ 100000; decide, fun n x H4 hx S4 B4 => ?_⟩
  obtain ⟨lanes, rfl, la1, la6⟩ : ∃ m : Nat, x = .int m ∧ 1 ≤ m ∧ m ≤ 6 := by
    have il : n < 5 := (List.getElem?_eq_some_iff.mp hx).1
    rcases n with _ | _ | _ | _ | _ | n
    · exact ⟨1, (Option.some.inj hx).symm, by decide, by decide⟩
    · exact ⟨2, (Option.some.inj hx).symm, by decide, by decide⟩
    · exact ⟨3, (Option.some.inj hx).symm, by decide, by decide⟩
    · exact ⟨4, (Option.some.inj hx).symm, by decide, by decide⟩
    · exact ⟨6, (Option.some.inj hx).symm, by decide, by decide⟩
    · lia
  refine ⟨l, lanes, rfl, S4, la1, by lia, fun r fr er ps N H5 ok eN fN5 na5 S5 B5 => hDb _ _ ?_⟩
  clear hDb
  have b35 : But l H3 H5 := (But.of s3').trans (B4.trans B5)
  clear s3' B4 B5
  refine seq_late (fun Dc hDc => ?_)
  refine ⟨_, rfl, r, fr, er, ps, N, rfl, ok, na5, fun sc tr gr ou H6 s6 sa6 => hDc _ _ ?_⟩
  clear hDc
  have wv6 := Wv.zero N
  have S6 := S5.keep s6
  have na6 := na5.tups (Tups.of s6)
  have b36 := b35.trans (But.of s6)
  clear s6 b35 na5 S5
  refine seq_late (fun Dd hDd => ?_)
  refine ⟨_, rfl, l, _, rfl, by lia, by lia, S6, fun v H7 hv S7 B7 => ⟨_, rfl, by lia, by lia, ?_⟩⟩
  have b37 := b36.trans B7
  have sa7 := sa6.tups (B7.tups S6)
  have na7 := na6.tups (B7.tups S6)
  refine for_range (lo := 0) (fun j σ H8 => ∃ w5 w6 w7 w8 w9 w10 sc tr gr ou qs ts gs os cs, σ = [some (.ref a), some (.int (0 + (i : Nat))), some (.ref l), some (.ref r), some (.ref sc), w5, w6, w7, w8, w9, w10] ∧ PkAt H8 l ∧ But l H3 H8 ∧ NetAt H8 r fr er ps N ∧ SceneAt H8 sc tr gr ou qs ts gs os ∧ Wv N cs ts gs os ∧ gs.length ≤ j)
    ⟨_, _, _, _, _, _, sc, tr, gr, ou, _, _, _, _, _, rfl, S7, b37, na7, sa7, wv6, Nat.zero_le _⟩ ?_ ?_
  · rintro j σ H8 hj ⟨w5, w6, w7, w8, w9, w10, sc, tr, gr, ou, qs, ts, gs, os, cs, rfl, S8, b38, na8, sa8, wv8, gl8⟩
    have j2 : j < 2 := by lia
    clear hj
    refine abs_g (fun D2 hD2 => ?_)
    have lp := ok.l1
    refine ⟨_, rfl, _, rfl, _, rfl, _, rfl, r, _, _, _, rfl, rfl, SqT.of na8.net, rfl, l, _, rfl, by lia, by lia, S8, fun lane H9 hl9 S9 B9 => ?_⟩
    refine ⟨_, rfl, l, rfl, S9, fun m H10 m0 m1 m2 S10 B10 => ⟨(by show 3 ≤ sizeLine; decide), fun d hd => ?_⟩⟩
    have tpA := (B9.tups S8).trans ((B10.tups S9).trans (Tups.of (same_new hd (.tup [.str "put", .int lane, .int m]))))
    have dk : DeedOk N gs (.put lane m) := ⟨by lia, m0, m1, m2⟩
    refine ⟨r, fr, er, ps, N, sc, tr, gr, ou, qs, ts, gs, os, d, .put lane m, rfl, ok, na8.tups tpA, sa8.tups tpA, wv8.ok, by lia, upd_same, dk, fun sc' tr' gr' ou' qs' ts' gs' os' H11 dt s11 sa11 => ?_⟩
    obtain ⟨wv11, gl11⟩ := wv8.put ok dk dt
    have s10 := (same_new hd (.tup [.str "put", .int lane, .int m])).trans s11
    exact hD2 _ _ ⟨_, _, _, _, _, _, sc', tr', gr', ou', qs', ts', gs', os', _, rfl, S10.keep s10, b38.trans (B9.trans (B10.trans (But.of s10))), na8.tups (tpA.trans (Tups.of s11)), sa11, wv11, by lia⟩
  rintro σ H8 ⟨w5, w6, w7, w8, w9, w10, sc, tr, gr, ou, qs, ts, gs, os, cs, rfl, S8, b38, na8, sa8, wv8, gl8⟩
  refine hDd _ _ ?_
  clear hDd sa6 sa7 na6 na7 S6 S7 b36 b37 B7 wv6
  have g2 : gs.length ≤ 2 := by lia
  have lp := ok.l1
  refine seq_late (fun De hDe => ?_)
  refine ⟨_, rfl, _, rfl, _, rfl, l, r, fr, er, ps, N, sc, tr, gr, ou, qs, ts, gs, os, cs, rfl, S8, ok, na8, sa8, wv8, by lia, fun sA tA gA oA HA SA BA wA saA => hDe _ _ ?_⟩
  clear hDe
  have naA := na8.tups (BA.tups S8)
  have b3A := b38.trans BA
  clear sa8 wv8 BA S8 na8 b38
  refine seq_late (fun Df hDf => ?_)
  refine ⟨_, rfl, _, rfl, r, _, _, _, rfl, rfl, SqT.of naA.net, rfl, l, _, rfl, by lia, by lia, SA, fun lane H9 hl9 S9 B9 => ?_⟩
  refine ⟨_, rfl, l, rfl, S9, fun m H10 m0 m1 m2 S10 B10 => ⟨_, _, rfl, hDf _ _ ?_⟩⟩
  clear hDf
  have tpA := (B9.tups SA).trans (B10.tups S9)
  have na10 := naA.tups tpA
  have sa10 := saA.tups tpA
  have b310 := b3A.trans (B9.trans B10)
  have ll : lane < N.lanes := by lia
  have dkP : ∀ gs, DeedOk N gs (.put lane m) := fun gs => ⟨ll, m0, m1, m2⟩
  have dkB : ∀ gs, DeedOk N gs (.put lane (0 - m)) := fun gs => ⟨ll, by lia, by lia, by lia⟩
  clear tpA B9 B10 naA saA b3A S9
  refine seq_late (fun Dg hDg => ?_)
  refine ⟨_, rfl, _, rfl, _, rfl, _, rfl, _, rfl, _, rfl, (by show 3 ≤ sizeLine; decide), fun d hd => ?_⟩
  have s11 := same_new hd (.tup [.str "put", .int lane, .int m])
  refine ⟨r, fr, er, ps, N, sA, tA, gA, oA, _, _, _, _, d, .put lane m, rfl, ok, na10.tups (Tups.of s11), sa10.tups (Tups.of s11), wA.ok, Nat.zero_le _, upd_same, dkP _, fun sB tB gB oB qsB tsB gsB osB HB dt sB' saB => ?_⟩
  obtain ⟨wvB, glB⟩ := wA.put ok (dkP _) dt
  have s1B := s11.trans sB'
  refine ⟨l, r, fr, er, ps, N, sB, tB, gB, oB, qsB, tsB, gsB, osB, _, rfl, S10.keep s1B, ok, na10.tups (Tups.of s1B), saB, wvB, by rw [glB]; show 0 + 1 + _ ≤ _; lia, fun sC tC gC oC HC SC BC wC saC => hDg _ _ ?_⟩
  clear hDg
  have bC := (But.of (l := l) s1B).trans BC
  have tpC := bC.tups S10
  have naC := na10.tups tpC
  have saA := sa10.tups tpC
  have b3C := b310.trans bC
  clear s11 s1B sB' dt saB BC bC tpC wvB na10 sa10 b310 hd S10
  have cl := wA.cl
  have back : (cs.set lane (cs.getD lane 0 + m)).set lane ((cs.set lane (cs.getD lane 0 + m)).getD lane 0 + (0 - m)) = cs := set_back (by lia) m
  refine seq_late (fun Dh hDh => ?_)
  refine ⟨_, rfl, _, rfl, _, rfl, _, rfl, _, rfl, _, rfl, _, _, rfl, rfl, (by show 3 ≤ sizeLine; decide), fun d2 hd2 => ?_⟩
  have s12 := same_new hd2 (.tup [.str "put", .int lane, .int (0 - m)])
  refine ⟨r, fr, er, ps, N, sC, tC, gC, oC, _, _, _, _, d2, .put lane (0 - m), rfl, ok, naC.tups (Tups.of s12), saC.tups (Tups.of s12), wC.ok, Nat.zero_le _, upd_same, dkB _, fun sD tD gD oD qsD tsD gsD osD HD dt sD' saD => ?_⟩
  obtain ⟨wvD, glD⟩ := wC.put ok (dkB _) dt
  rw [back] at wvD
  have s1D := s12.trans sD'
  refine ⟨l, r, fr, er, ps, N, sD, tD, gD, oD, qsD, tsD, gsD, osD, _, rfl, SC.keep s1D, ok, naC.tups (Tups.of s1D), saD, wvD, by rw [glD]; show 0 + 1 + _ ≤ _; lia, fun sF tF gF oF HF SF BF wF saF => hDh _ _ ?_⟩
  clear hDh
  have bF := (But.of (l := l) s1D).trans BF
  have tpF := bF.tups SC
  have naF := naC.tups tpF
  have saA := saA.tups tpF
  have saC := saC.tups tpF
  have b3F := b3C.trans bF
  clear s12 s1D sD' dt saD BF bF tpF wvD naC b3C hd2 SC
  refine seq_late (fun Di hDi => ?_)
  refine ⟨_, rfl, sA, _, _, _, rfl, rfl, SqT.of saA.sc, rfl, Nat.zero_le _, fun e he => ?_⟩
  have se := same_new he (.tup [])
  refine ⟨1, gA, e, _, _, by decide, rfl, rfl, SqT.of (se _ _ saA.gr), SqT.of upd_same, rfl, fun i u v hu => by simp at hu, _, rfl, iteF ?_⟩
  refine ⟨_, rfl, sC, _, _, _, rfl, rfl, SqT.of (se _ _ saC.sc), rfl, Nat.zero_le _, fun e2 he2 => ?_⟩
  have se2 := same_new he2 (.tup [])
  refine ⟨1, gC, e2, _, _, by decide, rfl, rfl, SqT.of (se2 _ _ (se _ _ saC.gr)), SqT.of upd_same, rfl, fun i u v hu => by simp at hu, _, rfl, iteF ?_⟩
  have s14 := se.trans se2
  generalize upd (upd HF e (.tup [])) e2 (.tup []) = HG at s14 ⊢
  have S14 := SF.keep s14
  have na14 := naF.tups (Tups.of s14)
  have saA := saA.tups (Tups.of s14)
  have saC := saC.tups (Tups.of s14)
  have saF := saF.tups (Tups.of s14)
  have b14 := b3F.trans (But.of s14)
  clear s14 se se2 he he2 naF SF b3F
  refine ⟨_, rfl, _, rfl, 2, sF, sA, _, _, by decide, rfl, rfl, SqT.of saF.sc, SqT.of saA.sc, rfl, deqS saF saA, _, rfl, iteF ?_⟩
  refine ⟨_, rfl, sF, tF, gF, oF, _, _, _, _, rfl, saF, ?_⟩
  refine ⟨_, _, rfl, rfl, _, rfl, iteF (hDi _ _ ?_)⟩
  clear hDi
  refine seq_late (fun Dj hDj => ?_)
  refine ⟨_, rfl, _, rfl, _, rfl, _, rfl, _, rfl, (by show 3 ≤ sizeLine; decide), fun d3 hd3 => ?_⟩
  have s15 := same_new hd3 (.tup [.str "put", .int lane, .int m])
  refine ⟨r, fr, er, ps, N, sA, tA, gA, oA, _, _, _, _, d3, .put lane m, rfl, ok, na14.tups (Tups.of s15), saA.tups (Tups.of s15), wA.ok, Nat.zero_le _, upd_same, dkP _, fun sB tB gB oB qsB tsB gsB osB HB dt sB' saB => ?_⟩
  obtain ⟨wvB, glB⟩ := wA.put ok (dkP _) dt
  refine ⟨_, rfl, _, rfl, _, _, rfl, rfl, (by show 3 ≤ sizeLine; decide), fun d4 hd4 => ?_⟩
  have s16 := same_new hd4 (.tup [.str "put", .int lane, .int (0 - m)])
  have g1 : gsB.length = 1 := glB
  refine ⟨r, fr, er, ps, N, sB, tB, gB, oB, _, _, _, _, d4, .put lane (0 - m), rfl, ok, na14.tups (Tups.of (s15.trans (sB'.trans s16))), saB.tups (Tups.of s16), wvB.ok, by lia, upd_same, dkB _, fun sG tG gG oG qsG tsG gsG osG HH dt2 sG' saG => hDj _ _ ?_⟩
  clear hDj
  obtain ⟨wvG, glG⟩ := wvB.put ok (dkB _) dt2
  rw [back] at wvG
  have s17 := s15.trans (sB'.trans (s16.trans sG'))
  have S17 := S14.keep s17
  have na17 := na14.tups (Tups.of s17)
  have saA := saA.tups (Tups.of s17)
  have saC := saC.tups (Tups.of s17)
  have b17 := b14.trans (But.of s17)
  clear s15 s16 sB' sG' saB dt dt2 hd3 hd4 saF
  refine seq_late (fun Dk hDk => ?_)
  refine ⟨_, rfl, _, rfl, _, rfl, l, r, fr, er, ps, N, sG, tG, gG, oG, qsG, tsG, gsG, osG, _, rfl, S17, ok, na17, saG, wvG, by rw [glG]; lia, fun sI tI gI oI HI SI BI wI saI => ?_⟩
  have tpI := BI.tups S17
  have saA := saA.tups tpI
  have saC := saC.tups tpI
  have naI := na17.tups tpI
  refine ⟨_, rfl, 2, sI, sA, _, _, by decide, rfl, rfl, SqT.of saI.sc, SqT.of saA.sc, rfl, deqS saI saA, _, rfl, iteF ?_⟩
  refine ⟨_, rfl, _, rfl, _, rfl, l, r, fr, er, ps, N, sA, tA, gA, oA, _, _, rfl, SI, ok, naI, saA, wA.ok, fun HJ SJ BJ => ?_⟩
  refine ⟨_, rfl, iteF (hDk _ _ ?_)⟩
  clear hDk
  have tpJ := BJ.tups SI
  have saA := saA.tups tpJ
  have saC := saC.tups tpJ
  refine ⟨_, rfl, sC, _, _, _, rfl, rfl, SqT.of saC.sc, rfl, oC, _, rfl, SqT.of saC.ou, ?_⟩
  refine ⟨_, rfl, sA, _, _, _, rfl, rfl, SqT.of saA.sc, rfl, oA, _, rfl, SqT.of saA.ou, _, rfl, _, _, rfl, rfl, ?_⟩
  rw [ends_sum ok (by rw [List.length_set]; exact cl), ends_sum ok cl, set_sum (by lia) m]
  refine ⟨rfl, _, rfl, ?_⟩
  rw [show decide (V.int (cs.sum + m) = V.int (cs.sum + m)) = true from decide_eq_true rfl]
  exact iteF (hD1 _ _ ⟨⟨_, _, _, _, _, _, _, _, _, _, rfl⟩, sqL_but hS2 hl s3 (b17.trans (BI.trans BJ))⟩)
end
end K20
end
namespace K20
open PySem L2 Own Bn
structure FnAt (K : PySem.W.Frag) (x : Str) (st : Stmt) (f : Addr) (fd : FuncData) : Prop where
  ns : PySem.W.nsIn K mainGlobals x = some (some (.ref f))
  fn : Fun K x x st f fd
theorem fn_at {K : PySem.W.Frag} {x : Str} {st : Stmt} {f : Addr} {oc : Value} {od an : Option Addr} {osl : Array (Option Value)} {kV doc pm cdv ct : Value} (a : PySem.W.nsIn K mainGlobals x = some (some (.ref f)))
    (l : K.lookup f = some ⟨oc, od, .func (PySem.W.fnOf x x (defArgs st) (defBody st) (defScope st) .none kV doc pm an cdv ct), osl⟩) (c : PySem.W.codeIn K cdv x = true) (k : PySem.W.keepIn K (.ref f) = true) : FnAt K x st f (PySem.W.fnOf x x (defArgs st) (defBody st) (defScope st) .none kV doc pm an cdv ct) := ⟨a, fun_mk l c k⟩
theorem us1 {us : List Value} (h : us.length = 1) : ∃ u0, us = [u0] := by
  match us, h with
  | [u0], _ => exact ⟨u0, rfl⟩
theorem us2 {us : List Value} (h : us.length = 2) : ∃ u0 u1, us = [u0, u1] := by
  match us, h with
  | [u0, u1], _ => exact ⟨u0, u1, rfl⟩
theorem us3 {us : List Value} (h : us.length = 3) : ∃ u0 u1 u2, us = [u0, u1, u2] := by
  match us, h with
  | [u0, u1, u2], _ => exact ⟨u0, u1, u2, rfl⟩
theorem us4 {us : List Value} (h : us.length = 4) : ∃ u0 u1 u2 u3, us = [u0, u1, u2, u3] := by
  match us, h with
  | [u0, u1, u2, u3], _ => exact ⟨u0, u1, u2, u3, rfl⟩
set_option maxHeartbeats 4000001 in
theorem all_mk {l : PySem.W.OpenLaw} {w : World} {K : PySem.W.Frag} {h : Heap} {mg : Str → Option Value} {fa f1 f2 f3 f4 f5 f6 f7 f8 f9 f10 f11 f12 f13 f14 f15 f16 f17 f18 f19 f20 f21 f22 f23 f24 f25 f26 f27 f28 f29 f30 : Addr} {d1 d2 d3 d4 d5 d6 d7 d8 d9 d10 d11 d12 d13 d14 d15 d16 d17 d18 d19 d20 d21 d22 d23 d24 d25 d26 d27 d28 d29 d30 : FuncData} (X : K.In h) (G : h.Ns mainGlobals mg) (hfa : mg "law" = some (.ref fa))
    (A1 : FnAt K "_law_cell_at" sCell f1 d1)
    (A2 : FnAt K "_law_left" sLeft f2 d2)
    (A3 : FnAt K "_law_pick" sPick f3 d3)
    (A4 : FnAt K "_law_of" sOf f4 d4)
    (A5 : FnAt K "_law_placed" sPlaced f5 d5)
    (A6 : FnAt K "_law_net" sNet f6 d6)
    (A7 : FnAt K "_law_many" sManyL f7 d7)
    (A8 : FnAt K "is_whole" sWhole f8 d8)
    (A9 : FnAt K "is_below" sBelow f9 d9)
    (A10 : FnAt K "has_few_figures" sFew f10 d10)
    (A11 : FnAt K "is_row" sIsRow f11 d11)
    (A12 : FnAt K "is_word" sWord f12 d12)
    (A13 : FnAt K "is_place" sPlace f13 d13)
    (A14 : FnAt K "is_many" sMany f14 d14)
    (A15 : FnAt K "is_deed" sDeed f15 d15)
    (A16 : FnAt K "next_fork" sNext f16 d16)
    (A17 : FnAt K "begun" sBegun f17 d17)
    (A18 : FnAt K "put_behind" sPutB f18 d18)
    (A19 : FnAt K "end_of" sEnd f19 d19)
    (A20 : FnAt K "given_at" sGiven f20 d20)
    (A21 : FnAt K "added" sAdded f21 d21)
    (A22 : FnAt K "parted" sParted f22 d22)
    (A23 : FnAt K "stepped" sStepped f23 d23)
    (A24 : FnAt K "joined" sJoined f24 d24)
    (A25 : FnAt K "done" sDone f25 d25)
    (A26 : FnAt K "is_still" sStill f26 d26)
    (A27 : FnAt K "_law_next" sNextD f27 d27)
    (A28 : FnAt K "_law_out" sOutL f28 d28)
    (A29 : FnAt K "_law_gone" sGone f29 d29)
    (A30 : FnAt K "law" sLaw f30 d30)
    (z1 : PySem.W.nsIn K mainGlobals "len" = some none)
    (z2 : PySem.W.nsIn K mainGlobals "range" = some none)
    (z3 : PySem.W.nsIn K mainGlobals "tuple" = some none)
    (z4 : PySem.W.nsIn K mainGlobals "enumerate" = some none)
    (z5 : PySem.W.nsIn K mainGlobals "abs" = some none)
    (z6 : PySem.W.nsIn K mainGlobals "zip" = some none)
    (z7 : PySem.W.nsIn K mainGlobals "isinstance" = some none)
    (z8 : PySem.W.nsIn K mainGlobals "all" = some none)
    (z9 : PySem.W.nsIn K mainGlobals "sum" = some none)
    (z10 : PySem.W.nsIn K mainGlobals "bool" = some none)
    (z11 : PySem.W.nsIn K mainGlobals "int" = some none)
    (z12 : PySem.W.nsIn K mainGlobals "str" = some none)
    (z13 : PySem.W.nsIn K mainGlobals "max" = some none)
    (z14 : PySem.W.nsIn K mainGlobals "min" = some none)
    (z15 : PySem.W.nsIn K mainGlobals "sorted" = some none)
    (z16 : PySem.W.nsIn K mainGlobals "list" = some none)
    (zd : PySem.W.nsIn K cStatics "sys.int_max_str_digits" = some none)
    : ∃ fd : FuncData, (∀ (s : Shared) (v : Value), BindsTo s fd ⟨[v], []⟩ [("_law_script", v)]) ∧ ∀ base : Heap, K.In base → base.Ns mainGlobals mg → FnOk l.prog w K mg base CX0 7 fa fd ["_law_script"] (spLaw K) := by
  have e := hfa.symm.trans (PySem.W.mg_of X G A30.ns)
  cases e
  have M : Mgs mg := ⟨PySem.W.mg_none_of X G z1, PySem.W.mg_none_of X G z2, PySem.W.mg_none_of X G z3, PySem.W.mg_none_of X G z4, PySem.W.mg_none_of X G z5, PySem.W.mg_none_of X G z6, PySem.W.mg_none_of X G z7, PySem.W.mg_none_of X G z8, PySem.W.mg_none_of X G z9, PySem.W.mg_none_of X G z10, PySem.W.mg_none_of X G z11, PySem.W.mg_none_of X G z12, PySem.W.mg_none_of X G z13, PySem.W.mg_none_of X G z14, PySem.W.mg_none_of X G z15, PySem.W.mg_none_of X G z16⟩
  have b1 := A1.fn.binds (ps := ["_law_script", "_law_k"]) fun _ _ _ _ _ _ us hl => by obtain ⟨u0, u1, rfl⟩ := us2 hl; rfl
  have m1 := PySem.W.mg_of X G A1.ns
  have b2 := A2.fn.binds (ps := ["_law_script", "_law_k"]) fun _ _ _ _ _ _ us hl => by obtain ⟨u0, u1, rfl⟩ := us2 hl; rfl
  have m2 := PySem.W.mg_of X G A2.ns
  have b3 := A3.fn.binds (ps := ["_law_left_here", "_law_many_here"]) fun _ _ _ _ _ _ us hl => by obtain ⟨u0, u1, rfl⟩ := us2 hl; rfl
  have m3 := PySem.W.mg_of X G A3.ns
  have b4 := A4.fn.binds (ps := ["_law_left_here", "_law_some"]) fun _ _ _ _ _ _ us hl => by obtain ⟨u0, u1, rfl⟩ := us2 hl; rfl
  have m4 := PySem.W.mg_of X G A4.ns
  have b5 := A5.fn.binds (ps := ["_law_left_here", "_law_some"]) fun _ _ _ _ _ _ us hl => by obtain ⟨u0, u1, rfl⟩ := us2 hl; rfl
  have m5 := PySem.W.mg_of X G A5.ns
  have b6 := A6.fn.binds (ps := ["_law_left_here", "_law_lanes", "_law_most"]) fun _ _ _ _ _ _ us hl => by obtain ⟨u0, u1, u2, rfl⟩ := us3 hl; rfl
  have m6 := PySem.W.mg_of X G A6.ns
  have b7 := A7.fn.binds (ps := ["_law_left_here"]) fun _ _ _ _ _ _ us hl => by obtain ⟨u0, rfl⟩ := us1 hl; rfl
  have m7 := PySem.W.mg_of X G A7.ns
  have b8 := A8.fn.binds (ps := ["thing"]) fun _ _ _ _ _ _ us hl => by obtain ⟨u0, rfl⟩ := us1 hl; rfl
  have m8 := PySem.W.mg_of X G A8.ns
  have b9 := A9.fn.binds (ps := ["thing", "bound"]) fun _ _ _ _ _ _ us hl => by obtain ⟨u0, u1, rfl⟩ := us2 hl; rfl
  have m9 := PySem.W.mg_of X G A9.ns
  have b10 := A10.fn.binds (ps := ["thing"]) fun _ _ _ _ _ _ us hl => by obtain ⟨u0, rfl⟩ := us1 hl; rfl
  have m10 := PySem.W.mg_of X G A10.ns
  have b11 := A11.fn.binds (ps := ["thing", "many"]) fun _ _ _ _ _ _ us hl => by obtain ⟨u0, u1, rfl⟩ := us2 hl; rfl
  have m11 := PySem.W.mg_of X G A11.ns
  have b12 := A12.fn.binds (ps := ["thing", "word"]) fun _ _ _ _ _ _ us hl => by obtain ⟨u0, u1, rfl⟩ := us2 hl; rfl
  have m12 := PySem.W.mg_of X G A12.ns
  have b13 := A13.fn.binds (ps := ["thing"]) fun _ _ _ _ _ _ us hl => by obtain ⟨u0, rfl⟩ := us1 hl; rfl
  have m13 := PySem.W.mg_of X G A13.ns
  have b14 := A14.fn.binds (ps := ["thing"]) fun _ _ _ _ _ _ us hl => by obtain ⟨u0, rfl⟩ := us1 hl; rfl
  have m14 := PySem.W.mg_of X G A14.ns
  have b15 := A15.fn.binds (ps := ["net", "thing"]) fun _ _ _ _ _ _ us hl => by obtain ⟨u0, u1, rfl⟩ := us2 hl; rfl
  have m15 := PySem.W.mg_of X G A15.ns
  have b16 := A16.fn.binds (ps := ["net", "lane", "number"]) fun _ _ _ _ _ _ us hl => by obtain ⟨u0, u1, u2, rfl⟩ := us3 hl; rfl
  have m16 := PySem.W.mg_of X G A16.ns
  have b17 := A17.fn.binds (ps := ["net"]) fun _ _ _ _ _ _ us hl => by obtain ⟨u0, rfl⟩ := us1 hl; rfl
  have m17 := PySem.W.mg_of X G A17.ns
  have b18 := A18.fn.binds (ps := ["net", "scene", "lane", "many"]) fun _ _ _ _ _ _ us hl => by obtain ⟨u0, u1, u2, u3, rfl⟩ := us4 hl; rfl
  have m18 := PySem.W.mg_of X G A18.ns
  have b19 := A19.fn.binds (ps := ["net", "lane"]) fun _ _ _ _ _ _ us hl => by obtain ⟨u0, u1, rfl⟩ := us2 hl; rfl
  have m19 := PySem.W.mg_of X G A19.ns
  have b20 := A20.fn.binds (ps := ["row", "place", "value"]) fun _ _ _ _ _ _ us hl => by obtain ⟨u0, u1, u2, rfl⟩ := us3 hl; rfl
  have m20 := PySem.W.mg_of X G A20.ns
  have b21 := A21.fn.binds (ps := ["counts", "place", "many"]) fun _ _ _ _ _ _ us hl => by obtain ⟨u0, u1, u2, rfl⟩ := us3 hl; rfl
  have m21 := PySem.W.mg_of X G A21.ns
  have b22 := A22.fn.binds (ps := ["net", "turn", "many", "number"]) fun _ _ _ _ _ _ us hl => by obtain ⟨u0, u1, u2, u3, rfl⟩ := us4 hl; rfl
  have m22 := PySem.W.mg_of X G A22.ns
  have b23 := A23.fn.binds (ps := ["net", "scene", "place"]) fun _ _ _ _ _ _ us hl => by obtain ⟨u0, u1, u2, rfl⟩ := us3 hl; rfl
  have m23 := PySem.W.mg_of X G A23.ns
  have b24 := A24.fn.binds (ps := ["scene", "first", "second"]) fun _ _ _ _ _ _ us hl => by obtain ⟨u0, u1, u2, rfl⟩ := us3 hl; rfl
  have m24 := PySem.W.mg_of X G A24.ns
  have b25 := A25.fn.binds (ps := ["net", "scene", "deed"]) fun _ _ _ _ _ _ us hl => by obtain ⟨u0, u1, u2, rfl⟩ := us3 hl; rfl
  have m25 := PySem.W.mg_of X G A25.ns
  have b26 := A26.fn.binds (ps := ["scene"]) fun _ _ _ _ _ _ us hl => by obtain ⟨u0, rfl⟩ := us1 hl; rfl
  have m26 := PySem.W.mg_of X G A26.ns
  have b27 := A27.fn.binds (ps := ["_law_left_here", "_law_scene", "_law_turn"]) fun _ _ _ _ _ _ us hl => by obtain ⟨u0, u1, u2, rfl⟩ := us3 hl; rfl
  have m27 := PySem.W.mg_of X G A27.ns
  have b28 := A28.fn.binds (ps := ["_law_left_here", "_law_net_here", "_law_scene"]) fun _ _ _ _ _ _ us hl => by obtain ⟨u0, u1, u2, rfl⟩ := us3 hl; rfl
  have m28 := PySem.W.mg_of X G A28.ns
  have b29 := A29.fn.binds (ps := ["_law_left_here", "_law_net_here", "_law_scene"]) fun _ _ _ _ _ _ us hl => by obtain ⟨u0, u1, u2, rfl⟩ := us3 hl; rfl
  have m29 := PySem.W.mg_of X G A29.ns
  obtain ⟨oc, od, kV, doc, pm, an, cdv, ct, osl, ed, _, _⟩ := id A30.fn.ex
  refine ⟨d30, fun s v => by rw [ed]; exact .of_eq rfl, fun base _ _ => ?_⟩
  have U1 : Use l.prog w K mg base "_law_cell_at" ["_law_script", "_law_k"] 1 (spCell K) f1 d1 := ⟨ok_cell A1.fn M, b1, A1.fn.kp, m1⟩
  have U2 : Use l.prog w K mg base "_law_left" ["_law_script", "_law_k"] 2 (spLeft K) f2 d2 := ⟨ok_left A2.fn M zd U1, b2, A2.fn.kp, m2⟩
  have U3 : Use l.prog w K mg base "_law_pick" ["_law_left_here", "_law_many_here"] 1 spPick f3 d3 := ⟨ok_pick A3.fn, b3, A3.fn.kp, m3⟩
  have U4 : Use l.prog w K mg base "_law_of" ["_law_left_here", "_law_some"] 2 spOf f4 d4 := ⟨ok_of A4.fn M U3, b4, A4.fn.kp, m4⟩
  have U5 : Use l.prog w K mg base "_law_placed" ["_law_left_here", "_law_some"] 2 spPlaced f5 d5 := ⟨ok_placed A5.fn M U3, b5, A5.fn.kp, m5⟩
  have U6 : Use l.prog w K mg base "_law_net" ["_law_left_here", "_law_lanes", "_law_most"] 3 (spNetL 10) f6 d6 := ⟨ok_net 10 (by decide) A6.fn M U3 U4 U5, b6, A6.fn.kp, m6⟩
  have U7 : Use l.prog w K mg base "_law_many" ["_law_left_here"] 3 spManyL f7 d7 := ⟨ok_manyl A7.fn M U3 U4, b7, A7.fn.kp, m7⟩
  have U8 : Use l.prog w K mg base "is_whole" ["thing"] 1 (spWhole K) f8 d8 := ⟨ok_whole A8.fn M, b8, A8.fn.kp, m8⟩
  have U9 : Use l.prog w K mg base "is_below" ["thing", "bound"] 2 (spBelow K) f9 d9 := ⟨ok_below A9.fn M U8, b9, A9.fn.kp, m9⟩
  have U10 : Use l.prog w K mg base "has_few_figures" ["thing"] 2 (spFew K) f10 d10 := ⟨ok_few A10.fn M U8, b10, A10.fn.kp, m10⟩
  have U11 : Use l.prog w K mg base "is_row" ["thing", "many"] 1 (spIsRow K) f11 d11 := ⟨ok_isrow A11.fn M, b11, A11.fn.kp, m11⟩
  have U12 : Use l.prog w K mg base "is_word" ["thing", "word"] 1 (spWord K) f12 d12 := ⟨ok_word A12.fn M, b12, A12.fn.kp, m12⟩
  have U13 : Use l.prog w K mg base "is_place" ["thing"] 2 (spPlace K) f13 d13 := ⟨ok_place A13.fn M U8, b13, A13.fn.kp, m13⟩
  have U14 : Use l.prog w K mg base "is_many" ["thing"] 3 (spMany K) f14 d14 := ⟨ok_many A14.fn M U10, b14, A14.fn.kp, m14⟩
  have U15 : Use l.prog w K mg base "is_deed" ["net", "thing"] 4 (spDeed K) f15 d15 := ⟨ok_deed A15.fn M U11 U12 U9 U14 U13, b15, A15.fn.kp, m15⟩
  have U16 : Use l.prog w K mg base "next_fork" ["net", "lane", "number"] 1 spNext f16 d16 := ⟨ok_next A16.fn M, b16, A16.fn.kp, m16⟩
  have U17 : Use l.prog w K mg base "begun" ["net"] 1 spBegun f17 d17 := ⟨ok_begun A17.fn M, b17, A17.fn.kp, m17⟩
  have U18 : Use l.prog w K mg base "put_behind" ["net", "scene", "lane", "many"] 2 spPutB f18 d18 := ⟨ok_putb A18.fn M U16, b18, A18.fn.kp, m18⟩
  have U19 : Use l.prog w K mg base "end_of" ["net", "lane"] 1 spEnd f19 d19 := ⟨ok_end A19.fn, b19, A19.fn.kp, m19⟩
  have U20 : Use l.prog w K mg base "given_at" ["row", "place", "value"] 1 spGiven f20 d20 := ⟨ok_given A20.fn M, b20, A20.fn.kp, m20⟩
  have U21 : Use l.prog w K mg base "added" ["counts", "place", "many"] 2 spAdded f21 d21 := ⟨ok_added A21.fn M U20, b21, A21.fn.kp, m21⟩
  have U22 : Use l.prog w K mg base "parted" ["net", "turn", "many", "number"] 2 spParted f22 d22 := ⟨ok_parted A22.fn M U16, b22, A22.fn.kp, m22⟩
  have U23 : Use l.prog w K mg base "stepped" ["net", "scene", "place"] 3 spStepped f23 d23 := ⟨ok_stepped A23.fn M U21 U19 U22 U20, b23, A23.fn.kp, m23⟩
  have U24 : Use l.prog w K mg base "joined" ["scene", "first", "second"] 1 spJoined f24 d24 := ⟨ok_joined A24.fn M, b24, A24.fn.kp, m24⟩
  have U25 : Use l.prog w K mg base "done" ["net", "scene", "deed"] 5 spDone f25 d25 := ⟨ok_done A25.fn M U15 U18 U23 U24, b25, A25.fn.kp, m25⟩
  have U27 : Use l.prog w K mg base "_law_next" ["_law_left_here", "_law_scene", "_law_turn"] 2 spNextD f27 d27 := ⟨ok_nextd A27.fn M U3, b27, A27.fn.kp, m27⟩
  have U28 : Use l.prog w K mg base "_law_out" ["_law_left_here", "_law_net_here", "_law_scene"] 6 spOutL f28 d28 := ⟨ok_outl A28.fn M U25 U27, b28, A28.fn.kp, m28⟩
  have U26 : Use l.prog w K mg base "is_still" ["scene"] 1 spStill f26 d26 := ⟨ok_still A26.fn M, b26, A26.fn.kp, m26⟩
  have U29 : Use l.prog w K mg base "_law_gone" ["_law_left_here", "_law_net_here", "_law_scene"] 6 spGone f29 d29 := ⟨ok_gone A29.fn M U25 U3 U7, b29, A29.fn.kp, m29⟩
  exact ok_law A30.fn M U2 U6 U17 U4 U25 U7 U3 U26 U28 U29
theorem walk {l : PySem.W.OpenLaw} {q : Program} {loose : List Str} {XP : (Str → Option Value) → Heap → Prop} {YP : World → Heap → Prop} {d : DefRec} {K : Params → PySem.W.Frag} (hn : l.most = some 63) (hdf : d.params.defaults = [])
    (hY : ∀ (w : World) (h : Heap), YP w h → (K w.params).In h)
    (F : ∀ (w : World) (mg : Str → Option Value) (fa : Addr) (h : Heap), (K w.params).In h → h.Ns mainGlobals mg → mg d.name = some (.ref fa) →
      ∃ fd : FuncData, (∀ (s : Shared) (u : Value), BindsTo s fd ⟨[u], []⟩ [("_law_script", u)]) ∧ ∀ base : Heap, (K w.params).In base → base.Ns mainGlobals mg → FnOk l.prog w (K w.params) mg base CX0 7 fa fd ["_law_script"] (spLaw (K w.params))) :
    PySem.W.WalkO q loose XP YP l.row.toRowW d [] (fun f vs => PySem.call f vs) :=
  L2.walk_ofK (n := 63) (k := 7) (x := "_law_script") (CX := CX0) (sp := spLaw) hn (by decide) hdf ⟨rfl, by decide, by decide, rfl⟩ hY F (fun _ _ a ns hl _ hS => ⟨a, ns, rfl, hS, hl, fun _ => rfl⟩) fun _ _ _ _ z => z
end K20
open PySem PySem.W PyProof.Rows
set_option maxRecDepth 100000 in
set_option maxHeartbeats 0 in
theorem PySem.Challenge.cw_stairlanes_k20_balls_back_holds : PySem.Challenge.rw_stairlanes_k20_balls_back.Holds := by
  w_on; o_law; k_head; (case hw => w_witness2)
  k_fill
  refine K20.walk (l := PySem.Challenge.rw_stairlanes_k20_balls_back) rfl rfl (fun w h Y => PySem.W.kIn_of Y) ?F
  case F =>
    intro w mg fa h KX G hmg
    refine' K20.all_mk KX G hmg (K20.fn_at ?a1 ?l1 ?c1 ?k1) (K20.fn_at ?a2 ?l2 ?c2 ?k2) (K20.fn_at ?a3 ?l3 ?c3 ?k3) (K20.fn_at ?a4 ?l4 ?c4 ?k4) (K20.fn_at ?a5 ?l5 ?c5 ?k5) (K20.fn_at ?a6 ?l6 ?c6 ?k6) (K20.fn_at ?a7 ?l7 ?c7 ?k7) (K20.fn_at ?a8 ?l8 ?c8 ?k8) (K20.fn_at ?a9 ?l9 ?c9 ?k9) (K20.fn_at ?a10 ?l10 ?c10 ?k10) (K20.fn_at ?a11 ?l11 ?c11 ?k11) (K20.fn_at ?a12 ?l12 ?c12 ?k12) (K20.fn_at ?a13 ?l13 ?c13 ?k13) (K20.fn_at ?a14 ?l14 ?c14 ?k14) (K20.fn_at ?a15 ?l15 ?c15 ?k15) (K20.fn_at ?a16 ?l16 ?c16 ?k16) (K20.fn_at ?a17 ?l17 ?c17 ?k17) (K20.fn_at ?a18 ?l18 ?c18 ?k18) (K20.fn_at ?a19 ?l19 ?c19 ?k19) (K20.fn_at ?a20 ?l20 ?c20 ?k20) (K20.fn_at ?a21 ?l21 ?c21 ?k21) (K20.fn_at ?a22 ?l22 ?c22 ?k22) (K20.fn_at ?a23 ?l23 ?c23 ?k23) (K20.fn_at ?a24 ?l24 ?c24 ?k24) (K20.fn_at ?a25 ?l25 ?c25 ?k25) (K20.fn_at ?a26 ?l26 ?c26 ?k26) (K20.fn_at ?a27 ?l27 ?c27 ?k27) (K20.fn_at ?a28 ?l28 ?c28 ?k28) (K20.fn_at ?a29 ?l29 ?c29 ?k29) (K20.fn_at ?a30 ?l30 ?c30 ?k30) ?z1 ?z2 ?z3 ?z4 ?z5 ?z6 ?z7 ?z8 ?z9 ?z10 ?z11 ?z12 ?z13 ?z14 ?z15 ?z16 ?zd
    (case a1 => k_is); (case l1 => k_is); (case c1 => k_is); (case k1 => k_is)
    (case a2 => k_is); (case l2 => k_is); (case c2 => k_is); (case k2 => k_is)
    (case a3 => k_is); (case l3 => k_is); (case c3 => k_is); (case k3 => k_is)
    (case a4 => k_is); (case l4 => k_is); (case c4 => k_is); (case k4 => k_is)
    (case a5 => k_is); (case l5 => k_is); (case c5 => k_is); (case k5 => k_is)
    (case a6 => k_is); (case l6 => k_is); (case c6 => k_is); (case k6 => k_is)
    (case a7 => k_is); (case l7 => k_is); (case c7 => k_is); (case k7 => k_is)
    (case a8 => k_is); (case l8 => k_is); (case c8 => k_is); (case k8 => k_is)
    (case a9 => k_is); (case l9 => k_is); (case c9 => k_is); (case k9 => k_is)
    (case a10 => k_is); (case l10 => k_is); (case c10 => k_is); (case k10 => k_is)
    (case a11 => k_is); (case l11 => k_is); (case c11 => k_is); (case k11 => k_is)
    (case a12 => k_is); (case l12 => k_is); (case c12 => k_is); (case k12 => k_is)
    (case a13 => k_is); (case l13 => k_is); (case c13 => k_is); (case k13 => k_is)
    (case a14 => k_is); (case l14 => k_is); (case c14 => k_is); (case k14 => k_is)
    (case a15 => k_is); (case l15 => k_is); (case c15 => k_is); (case k15 => k_is)
    (case a16 => k_is); (case l16 => k_is); (case c16 => k_is); (case k16 => k_is)
    (case a17 => k_is); (case l17 => k_is); (case c17 => k_is); (case k17 => k_is)
    (case a18 => k_is); (case l18 => k_is); (case c18 => k_is); (case k18 => k_is)
    (case a19 => k_is); (case l19 => k_is); (case c19 => k_is); (case k19 => k_is)
    (case a20 => k_is); (case l20 => k_is); (case c20 => k_is); (case k20 => k_is)
    (case a21 => k_is); (case l21 => k_is); (case c21 => k_is); (case k21 => k_is)
    (case a22 => k_is); (case l22 => k_is); (case c22 => k_is); (case k22 => k_is)
    (case a23 => k_is); (case l23 => k_is); (case c23 => k_is); (case k23 => k_is)
    (case a24 => k_is); (case l24 => k_is); (case c24 => k_is); (case k24 => k_is)
    (case a25 => k_is); (case l25 => k_is); (case c25 => k_is); (case k25 => k_is)
    (case a26 => k_is); (case l26 => k_is); (case c26 => k_is); (case k26 => k_is)
    (case a27 => k_is); (case l27 => k_is); (case c27 => k_is); (case k27 => k_is)
    (case a28 => k_is); (case l28 => k_is); (case c28 => k_is); (case k28 => k_is)
    (case a29 => k_is); (case l29 => k_is); (case c29 => k_is); (case k29 => k_is)
    (case a30 => k_is); (case l30 => k_is); (case c30 => k_is); (case k30 => k_is)
    (case z1 => k_is)
    (case z2 => k_is)
    (case z3 => k_is)
    (case z4 => k_is)
    (case z5 => k_is)
    (case z6 => k_is)
    (case z7 => k_is)
    (case z8 => k_is)
    (case z9 => k_is)
    (case z10 => k_is)
    (case z11 => k_is)
    (case z12 => k_is)
    (case z13 => k_is)
    (case z14 => k_is)
    (case z15 => k_is)
    (case z16 => k_is)
    (case zd => k_is)
