import PyProof.Rows.All
import Wide.All
import OpenK.AllK
import Wide.FinOn
import Lean
import PyProof.EqAt
import PyProof.EqKinds
import PyProof.TupleCall
import PyProof.NeKinds
import KE.KIntText
import PyProof.TupleOfStr
import PyProof.ReprRoads
import KE.KSortTup
import KE.KItemsList
import PyProof.AttrMiss
import PyProof.IsiH_list
import KE.KDictOf
import KE.KDictSum
import PyProof.DictWalks
import PyProof.DictItems
import KE.KDictList
import KE.KEqDict
import KE.KPairComp
import PyProof.Rows.Range3
import PySem.Challenge.RW_stairlanes_k97_balls_at_their_paces
set_option Elab.async false
set_option linter.all false
set_option maxRecDepth 100000
namespace L2
open PySem PySem.Spec PyProof.Rows
abbrev Key := Sum Int Str
def keyIs : Key → Value → Bool
  | .inl k, v => Value.isInt k v
  | .inr x, v => Value.isStrOf x v
def keyH (w : World) : Key → Int
  | .inl k => hashInt k
  | .inr x => hashStr w x
theorem keyIs_shape : ∀ {k : Key} {v : Value}, keyIs k v = true → (∃ i t, k = Sum.inl i ∧ v = Value.int i t) ∨ (∃ x t, k = Sum.inr x ∧ v = Value.str x t)
  | .inl i, v, h => by
    obtain ⟨t, e⟩ := Value.isInt_shape (k := i) (v := v) h
    exact .inl ⟨i, t, rfl, e⟩
  | .inr x, v, h => by
    obtain ⟨t, e⟩ := Value.isStrOf_shape (x := x) (v := v) h
    exact .inr ⟨x, t, rfl, e⟩
theorem keyIs_int (i : Int) (t : Tok) : keyIs (.inl i) (.int i t) = true := by simp [keyIs, Value.isInt]
theorem keyIs_str (x : Str) (t : Tok) : keyIs (.inr x) (.str x t) = true := by simp [keyIs, Value.isStrOf]
theorem key_ll (a b : Int) : decide ((Sum.inl a : Key) = Sum.inl b) = (a == b) := by
  by_cases e : a = b
  · subst e; simp
  · have h : ¬ (Sum.inl a : Key) = Sum.inl b := fun q => e (Sum.inl.inj q)
    rw [decide_eq_false h]
    exact (beq_eq_false_iff_ne.mpr e).symm
theorem key_rr (a b : Str) : decide ((Sum.inr a : Key) = Sum.inr b) = decide (a = b) := by
  by_cases e : a = b
  · subst e; simp
  · have h : ¬ (Sum.inr a : Key) = Sum.inr b := fun q => e (Sum.inr.inj q)
    rw [decide_eq_false h, decide_eq_false e]
theorem key_lr (a : Int) (b : Str) : decide ((Sum.inl a : Key) = Sum.inr b) = false := decide_eq_false (fun q => nomatch q)
theorem key_rl (a : Str) (b : Int) : decide ((Sum.inr a : Key) = Sum.inl b) = false := decide_eq_false (fun q => nomatch q)

def mixKind (prog : Program) (w : World) : PySem.KeyKind prog w Key where
  is := keyIs
  hash := keyH w
  inj := fun v a b ha hb => by
    rcases keyIs_shape ha with ⟨i, t, rfl, rfl⟩ | ⟨x, t, rfl, rfl⟩
    · rcases keyIs_shape hb with ⟨j, u, rfl, e⟩ | ⟨y, u, rfl, e⟩
      · injection e with e1 _; rw [e1]
      · exact nomatch e
    · rcases keyIs_shape hb with ⟨j, u, rfl, e⟩ | ⟨y, u, rfl, e⟩
      · exact nomatch e
      · injection e with e1 _; rw [e1]
  byValue := fun k v h => by
    rcases keyIs_shape h with ⟨i, t, rfl, rfl⟩ | ⟨x, t, rfl, rfl⟩ <;> rfl
  pyHash := fun hv h => by
    rcases keyIs_shape hv with ⟨i, t, rfl, rfl⟩ | ⟨x, t, rfl, rfl⟩
    · exact wpAny_pyHash_int h
    · exact wpAny_pyHash_str h
  eqBool := fun hu hv h => by
    rcases keyIs_shape hu with ⟨i, t, rfl, rfl⟩ | ⟨x, t, rfl, rfl⟩
    · rcases keyIs_shape hv with ⟨j, u, rfl, rfl⟩ | ⟨y, u, rfl, rfl⟩
      · rw [key_ll] at h; exact wpAny_eqBool_int h
      · rw [key_lr] at h; exact SeqAt.EqAt.int_str i t y u _ _ _ _ h
    · rcases keyIs_shape hv with ⟨j, u, rfl, rfl⟩ | ⟨y, u, rfl, rfl⟩
      · rw [key_rl] at h; exact SeqAt.EqAt.str_int x t j u _ _ _ _ h
      · rw [key_rr] at h; exact wpAny_eqBool_str h
  «strs» := fun k x t v h => by
    rcases keyIs_shape h with ⟨i, u, rfl, e⟩ | ⟨y, u, rfl, e⟩
    · exact nomatch e
    · injection e with e1 _
      subst e1
      cases v <;> rfl

theorem mixKind_int (prog : Program) (w : World) (i : Int) (t : Tok) : (mixKind prog w).is (.inl i) (.int i t) = true := keyIs_int i t
theorem mixKind_str (prog : Program) (w : World) (x : Str) (t : Tok) : (mixKind prog w).is (.inr x) (.str x t) = true := keyIs_str x t
end L2

namespace L2
open PySem PySem.Spec PyProof.Rows
inductive V where
  | non | bl (b : Bool) | int (i : Int) | str (x : Str) | byt (b : Array UInt8) | flt (b : UInt64) | ref (a : Addr) | ty (n : String)
  deriving DecidableEq

def RelV : V → Value → Prop
  | .non, u => u = Value.none
  | .bl b, u => u = Value.bool b
  | .int i, u => ∃ t, u = Value.int i t
  | .str x, u => ∃ t, u = Value.str x t
  | .byt b, u => ∃ t, u = Value.bytes b t
  | .flt b, u => ∃ t, u = Value.float b t
  | .ref a, u => u = Value.ref a
  | .ty n, u => u = Value.type n

abbrev Vals : List V → List Value → Prop := Paired RelV
theorem Vals.length {xs : List V} {us : List Value} (r : Vals xs us) : xs.length = us.length := Paired.length r
theorem Vals.get : ∀ {xs : List V} {us : List Value} {i : Nat} {x : V}, Vals xs us → xs[i]? = some x → ∃ u, us[i]? = some u ∧ RelV x u
  | _, _, _, _, .nil, e => by simp at e
  | _, _, 0, _, .cons r _, e => by simp at e; subst e; exact ⟨_, rfl, r⟩
  | _, _, i + 1, x, .cons _ t, e => by
    obtain ⟨u, h1, h2⟩ := Vals.get (i := i) (x := x) t (by simpa using e)
    exact ⟨u, by simpa using h1, h2⟩
theorem Vals.set {x : V} {u : Value} (r : RelV x u) : ∀ {xs : List V} {us : List Value} (i : Nat), Vals xs us → Vals (xs.set i x) (us.set i u)
  | _, _, _, .nil => .nil
  | _, _, 0, .cons _ t => .cons r t
  | _, _, i + 1, .cons q t => .cons q (Vals.set r i t)
theorem Vals.append : ∀ {xs ys : List V} {us ws : List Value}, Vals xs us → Vals ys ws → Vals (xs ++ ys) (us ++ ws)
  | _, _, _, _, .nil, s => s
  | _, _, _, _, .cons r t, s => .cons r (Vals.append t s)
def RelO : Option V → Option Value → Prop
  | some v, some u => RelV v u
  | none, none => True
  | _, _ => False
def KV {κ : Type} : List (κ × V) → List (κ × Value) → Prop := Paired fun (p : κ × V) (q : κ × Value) => p.1 = q.1 ∧ RelV p.2 q.2
def kV : Key → V
  | .inl i => .int i
  | .inr x => .str x
inductive HO where
  | lst (xs : List V)
  | tup (xs : List V)
  | dK (kvs : List (Key × V)) | dT (kvs : List (List Key × V))
  | set (S : Int → Bool) (n : Nat)
  | ins (C dx : Addr) (fs : List (Str × V))
  | own (x : Addr)
  | xd (fs : List (Str × V))
  | met (f x : Addr)
  | rng (lo hi : Int)
  | frz (o : Obj) (u : HO)
  | tbl (ps : Array Value)
  | ext (φ : Heap → Prop)

abbrev Hp := Addr → Option HO
def upd (H : Hp) (a : Addr) (o : HO) : Hp := fun b => if b = a then some o else H b
theorem upd_same {H : Hp} {a : Addr} {o : HO} : upd H a o a = some o := by unfold upd; rw [if_pos rfl]
theorem upd_ne {H : Hp} {a b : Addr} {o : HO} (h : b ≠ a) : upd H a o b = H b := by unfold upd; rw [if_neg h]
theorem ne_of {H : Hp} {a b : Addr} {o u : HO} (h : H a = some o) (h' : H b = some u) (d : o ≠ u) : a ≠ b := by
  intro e; subst e; rw [h] at h'; exact d (Option.some.inj h')
theorem ne_of_none {H : Hp} {a b : Addr} {o : HO} (h : H a = some o) (h' : H b = none) : a ≠ b := by
  intro e; subst e; rw [h] at h'; cases h'
def TupX (h : Heap) (a : Addr) (items : Array Value) : Prop := ∃ o, h.get? a = some o ∧ o.cls = .type "tuple" ∧ ∃ n, o.data = .seq items n ∧ o.dict = none
theorem TupX.tup {h : Heap} {a : Addr} {items : Array Value} (x : TupX h a items) : IsTup h a items := let ⟨o, e, c, n, d, _⟩ := x; ⟨o, e, c, n, d⟩
theorem TupX.new (h : Heap) (items : Array Value) : TupX (h.push { cls := .type "tuple", data := .seq items }) h.objs.size items := ⟨_, Heap.get?_push_size _ rfl, rfl, 0, rfl, rfl⟩
section
variable (P : Program) (w : World)
def ObjOk (H : Hp) (h : Heap) (a : Addr) : HO → Prop
  | .lst xs => xs.length ≤ sizeLine ∧ ∃ (its : List Value) (n : Nat), Vals xs its ∧ h.get? a = some { cls := .type "list", data := .seq its.toArray n }
  | .tup xs => xs.length ≤ sizeLine ∧ ∃ its : List Value, Vals xs its ∧ TupX h a its.toArray
  | .dK kvs => kvs.length ≤ sizeLine ∧ (a == sysModules) = false ∧ ∃ vs, KV kvs vs ∧ h.DictOf (mixKind P w) a vs
  | .dT kvs => kvs.length ≤ sizeLine ∧ (a == sysModules) = false ∧ ∃ xs : List (List Key × Addr × Value),
      Paired (fun (p : List Key × V) (q : List Key × Addr × Value) => p.1 = q.1 ∧ H q.2.1 = some (.tup (p.1.map kV)) ∧ RelV p.2 q.2.2) kvs xs ∧
      ∃ o es ep, h.get? a = some o ∧ o.ExactDict ∧ o.data = .dict es ep ∧ es.toList = xs.map (entryOfKey (tupleKind (mixKind P w))) ∧ (xs.map (·.1)).Nodup
  | .set S n => h.SetOf (intKind P w) a S n
  | .ins C dx fs => H dx = some (.own a) ∧ fs.length ≤ 1000 ∧ dx ≠ a ∧ h.get? a = some (PySem.W.instObj C dx) ∧
      ∃ mA, h.Ns1 dx mA ∧ (∀ f, RelO (fs.lookup f) (mA f)) ∧ PySem.Within mA (fs.map (·.1))
  | .own _ => ∃ o, h.get? a = some o
  | .xd fs => ∃ mA, h.Ns1 a mA ∧ ∀ f, RelO (fs.lookup f) (mA f)
  | .rng lo hi => ∃ t u v, h.get? a = some { cls := .type "range", data := .fields #[.int lo t, .int hi u, .int 1 v] }
  | .frz o u => h.get? a = some o ∧ ObjOk H h a u
  | .tbl ps => h.get? a = some { cls := .none, data := .fields ps }
  | .met f x => h.get? a = some (PySem.W.methodObj (.ref f) (.ref x))
  | .ext φ => φ h ∧ (∃ o, h.get? a = some o) ∧ ∀ h1 h2 : Heap, φ h1 → (∀ o, h1.get? a = some o → h2.get? a = some o) → φ h2
def HOk (H : Hp) (h : Heap) : Prop := ∀ a o, H a = some o → ObjOk P w H h a o
end

section
variable {P : Program} {w : World} {H H' : Hp} {h h' : Heap} {a : Addr} {o : HO}
theorem ObjOk.lt (x : ObjOk P w H h a o) : a < h.objs.size := by
  cases o with
  | lst xs => obtain ⟨_, _, _, _, e⟩ := x; exact Heap.lt_size e
  | tup xs => obtain ⟨_, _, _, p⟩ := x; exact p.tup.lt
  | dK kvs => obtain ⟨_, _, _, _, o, _, _, e, _⟩ := x; exact Heap.lt_size e
  | dT kvs => obtain ⟨_, _, _, _, o, _, _, e, _⟩ := x; exact Heap.lt_size e
  | set S n => obtain ⟨o, _, _, _, e, _⟩ := x; exact Heap.lt_size e
  | ins C dx fs => obtain ⟨_, _, _, e, _⟩ := x; exact Heap.lt_size e
  | own y => obtain ⟨_, e⟩ := x; exact Heap.lt_size e
  | xd fs => obtain ⟨_, ⟨_, _, _, e, _⟩, _⟩ := x; exact Heap.lt_size e
  | rng lo hi => obtain ⟨_, _, _, e⟩ := x; exact Heap.lt_size e
  | frz ob u => obtain ⟨e, _⟩ := x; exact Heap.lt_size e
  | tbl ps => exact Heap.lt_size (show h.get? a = some _ from x)
  | met f y => exact Heap.lt_size (show h.get? a = some _ from x)
  | ext φ => obtain ⟨_, ⟨_, e⟩, _⟩ := x; exact Heap.lt_size e
theorem Paired.mapP {α β : Type} {F G : α → β → Prop} : ∀ {l₁ : List α} {l₂ : List β}, Paired F l₁ l₂ → (∀ a b, F a b → G a b) → Paired G l₁ l₂
  | _, _, .nil, _ => .nil
  | _, _, .cons r t, f => .cons (f _ _ r) (Paired.mapP t f)
theorem ObjOk.stay (x : ObjOk P w H h a o) (k : ∀ b u, (b = a ∨ H b = some (.own a)) → h.get? b = some u → h'.get? b = some u)
    (ho : ∀ b, H b = some (.own a) → H' b = some (.own a)) (ht : ∀ b xs, H b = some (.tup xs) → H' b = some (.tup xs)) : ObjOk P w H' h' a o := by
  induction o with
  | lst xs => obtain ⟨z, its, n, r, e⟩ := x; exact ⟨z, its, n, r, k _ _ (.inl rfl) e⟩
  | tup xs => obtain ⟨z, its, r, ob, e, c⟩ := x; exact ⟨z, its, r, ob, k _ _ (.inl rfl) e, c⟩
  | dK kvs => obtain ⟨z, y, vs, r, ob, es, ep, e, c⟩ := x; exact ⟨z, y, vs, r, ob, es, ep, k _ _ (.inl rfl) e, c⟩
  | dT kvs =>
    obtain ⟨z, y, xs, r, ob, es, ep, e, c⟩ := x
    exact ⟨z, y, xs, Paired.mapP r fun p q z => ⟨z.1, ht _ _ z.2.1, z.2.2⟩, ob, es, ep, k _ _ (.inl rfl) e, c⟩
  | set S n => obtain ⟨ob, es, ep, t, e, c⟩ := x; exact ⟨ob, es, ep, t, k _ _ (.inl rfl) e, c⟩
  | ins C dx fs =>
    obtain ⟨d, z, ne, e, mA, ⟨od, es, ep, e2, c⟩, r⟩ := x
    exact ⟨ho _ d, z, ne, k _ _ (.inl rfl) e, mA, ⟨od, es, ep, k _ _ (.inr d) e2, c⟩, r⟩
  | own y => obtain ⟨ob, e⟩ := x; exact ⟨ob, k _ _ (.inl rfl) e⟩
  | xd fs => obtain ⟨mA, ⟨od, es, ep, e, c⟩, r⟩ := x; exact ⟨mA, ⟨od, es, ep, k _ _ (.inl rfl) e, c⟩, r⟩
  | rng lo hi => obtain ⟨t, u, v, e⟩ := x; exact ⟨t, u, v, k _ _ (.inl rfl) e⟩
  | frz ob u ih => obtain ⟨e, q⟩ := x; exact ⟨k _ _ (.inl rfl) e, ih q⟩
  | tbl ps =>
    have e : h.get? a = some { cls := .none, data := .fields ps } := x
    show h'.get? a = some { cls := .none, data := .fields ps }
    exact k a _ (.inl rfl) e
  | met f y =>
    have e : h.get? a = some (PySem.W.methodObj (.ref f) (.ref y)) := x
    show h'.get? a = some (PySem.W.methodObj (.ref f) (.ref y))
    exact k a _ (.inl rfl) e
  | ext φ => obtain ⟨p, ⟨o, e⟩, st⟩ := x; exact ⟨st _ _ p fun o q => k _ _ (.inl rfl) q, ⟨o, k _ _ (.inl rfl) e⟩, st⟩
theorem HOk.lt (x : HOk P w H h) (e : H a = some o) : a < h.objs.size := (x a o e).lt
theorem HOk.fresh (x : HOk P w H h) (e : h.objs.size ≤ a) : H a = none := by
  cases q : H a with
  | none => rfl
  | some u => exact absurd (Nat.lt_of_lt_of_le (x.lt q) e) (Nat.lt_irrefl _)
theorem HOk.kept (x : HOk P w H h) (k : ∀ b u, h.get? b = some u → h'.get? b = some u) : HOk P w H h' := fun a o e =>
  (x a o e).stay (fun b u _ q => k b u q) (fun _ q => q) fun _ _ q => q
theorem HOk.laid (x : HOk P w H h) (k : ∀ b u, h.get? b = some u → h'.get? b = some u) (hp : h.objs.size ≤ a) (new : ObjOk P w (upd H a o) h' a o) : HOk P w (upd H a o) h' := fun b u e => by
  have hn := x.fresh hp
  by_cases hb : b = a
  · subst hb; rw [upd_same] at e; cases e; exact new
  · rw [upd_ne hb] at e
    exact (x b u e).stay (fun c v _ q => k c v q) (fun c q => by rw [upd_ne (ne_of_none q hn)]; exact q) fun c xs q => by rw [upd_ne (ne_of_none q hn)]; exact q
end
def Rd (H : Hp) (a : Addr) (u : HO) : Prop := H a = some u ∨ ∃ o, H a = some (.frz o u)
theorem Rd.ok {P : Program} {w : World} {H : Hp} {h : Heap} {a : Addr} {u : HO} (r : Rd H a u) (x : HOk P w H h) : ObjOk P w H h a u := by
  rcases r with r | ⟨o, r⟩
  · exact x a u r
  · obtain ⟨_, q⟩ := x a _ r
    exact q
def Mut : Option HO → Prop
  | some (.lst _) => True
  | some (.dK _) => True
  | some (.dT _) => True
  | some (.set _ _) => True
  | some (.ins _ _ _) => True
  | some (.ext _) => True
  | _ => False
section
variable {P : Program} {w : World} {H : Hp} {h h' : Heap} {x e : Addr} {o' : HO}
theorem HOk.write (ok : HOk P w H h) (mu : Mut (H x)) (he : e = x ∨ H e = some (.own x)) (k : ∀ b u, b ≠ e → h.get? b = some u → h'.get? b = some u) (heo : ∃ u, h'.get? e = some u)
    (new : ObjOk P w (upd H x o') h' x o') : HOk P w (upd H x o') h' := fun b u q => by
  have nown : ∀ c y, H c = some (.own y) → c ≠ x := fun c y r z => by subst z; rw [r] at mu; exact mu
  have ntup : ∀ c xs, H c = some (.tup xs) → c ≠ x := fun c xs r z => by subst z; rw [r] at mu; exact mu
  by_cases hb : b = x
  · subst hb; rw [upd_same] at q; cases q; exact new
  · rw [upd_ne hb] at q
    by_cases hbe : b = e
    · have q' : H b = some (.own x) := by
        rcases he with z | z
        · exact absurd (hbe.trans z) hb
        · rw [hbe]; exact z
      rw [q] at q'; cases q'
      obtain ⟨v, hv⟩ := heo
      exact ⟨v, by rw [hbe]; exact hv⟩
    · refine (ok b u q).stay (fun c v hc r => k c v ?_ r) (fun c r => by rw [upd_ne (nown c b r)]; exact r) fun c xs r => by rw [upd_ne (ntup c xs r)]; exact r
      rcases hc with rfl | hc
      · exact hbe
      · rintro rfl
        rcases he with z | z
        · exact nown c b hc z
        · rw [hc] at z; cases z; exact hb rfl
end
structure Un (fs ex : List Addr) (H H' : Hp) (h h' : Heap) : Prop where
  keep : ∀ b o, h.get? b = some o → H b = none → b ∉ fs → b ∉ ex → h'.get? b = some o
  slot : ∀ b o, h.get? b = some o → H b = none → b ∈ fs → b ∉ ex → ∃ sl, h'.get? b = some { o with slots := sl }
  free : ∀ b o, h.get? b = some o → H b = none → b ∉ ex → H' b = none
  there : ∀ b o, h.get? b = some o → b ∉ ex → ∃ o', h'.get? b = some o'
  tups : ∀ b xs, H b = some (.tup xs) → H' b = some (.tup xs)
  frzs : ∀ b o u, H b = some (.frz o u) → H' b = some (.frz o u)
  tbls : ∀ b ps, H b = some (.tbl ps) → ∃ more, H' b = some (.tbl (ps ++ more))
section
variable {fs fs' ex ex' : List Addr} {H H1 H2 : Hp} {h h1 h2 h' : Heap} {a x e : Addr} {o : HO}
theorem Un.any (u : Un fs ex H H1 h h1) {b : Addr} {ob : Obj} (q : h.get? b = some ob) (n : H b = none) (hx : b ∉ ex) : ∃ sl, h1.get? b = some { ob with slots := sl } := by
  by_cases hb : b ∈ fs
  · exact u.slot b ob q n hb hx
  · exact ⟨ob.slots, u.keep b ob q n hb hx⟩
theorem Un.kept (k : ∀ b u, h.get? b = some u → h'.get? b = some u) : Un fs ex H H h h' :=
  ⟨fun b ob q _ _ _ => k b ob q, fun b ob q _ _ _ => ⟨ob.slots, k b ob q⟩, fun _ _ _ n _ => n, fun b ob q _ => ⟨ob, k b ob q⟩, fun _ _ q => q, fun _ _ _ q => q, fun _ ps q => ⟨#[], by rw [q]; simp⟩⟩
theorem Un.refl : Un fs ex H H h h := Un.kept fun _ _ q => q
theorem Un.laid (k : ∀ b u, h.get? b = some u → h'.get? b = some u) (hp : h.objs.size ≤ a) (hn : H a = none) : Un fs ex H (upd H a o) h h' where
  keep := fun b u q _ _ _ => k b u q
  slot := fun b u q _ _ _ => ⟨u.slots, k b u q⟩
  free := fun b u q n _ => by rw [upd_ne (Nat.ne_of_lt (Nat.lt_of_lt_of_le (Heap.lt_size q) hp))]; exact n
  there := fun b u q _ => ⟨u, k b u q⟩
  tups := fun b xs q => by rw [upd_ne (ne_of_none q hn)]; exact q
  frzs := fun b u xs q => by rw [upd_ne (ne_of_none q hn)]; exact q
  tbls := fun b ps q => ⟨#[], by rw [upd_ne (ne_of_none q hn), q]; simp⟩
theorem Un.write (mu : Mut (H x)) (he : e = x ∨ H e = some (.own x)) (k : ∀ b u, b ≠ e → h.get? b = some u → h'.get? b = some u) (heo : ∃ u, h'.get? e = some u) : Un fs ex H (upd H x o) h h' := by
  have hx : ∀ b, H b = none → b ≠ x := fun b n z => by subst z; rw [n] at mu; exact mu
  have hb : ∀ b, H b = none → b ≠ e := fun b n z => by
    subst z
    rcases he with r | r
    · exact hx b n r
    · rw [n] at r; cases r
  have hm : ∀ b u, H b = some u → ¬ Mut (some u) → b ≠ x := fun b u q nm z => by subst z; rw [q] at mu; exact nm mu
  refine ⟨fun b u q n _ _ => k b u (hb b n) q, fun b u q n _ _ => ⟨u.slots, k b u (hb b n) q⟩, fun b u q n _ => by rw [upd_ne (hx b n)]; exact n, fun b u q _ => ?_,
    fun b xs q => by rw [upd_ne (hm b _ q fun z => z)]; exact q, fun b u xs q => by rw [upd_ne (hm b _ q fun z => z)]; exact q, fun b ps q => ⟨#[], by rw [upd_ne (hm b _ q fun z => z), q]; simp⟩⟩
  by_cases hbe : b = e
  · subst hbe; exact heo
  · exact ⟨u, k b u hbe q⟩
end
def trk (h : Heap) (H : Hp) : List Addr := (List.range h.objs.size).filter fun a => (H a).isSome
def hidT (h : Heap) (H : Hp) : Heap := PySem.W.hideAll h (trk h H)
theorem hidT_size (h : Heap) (H : Hp) : (hidT h H).objs.size = h.objs.size := PySem.W.hideAll_size _ _
theorem hidT_get {h : Heap} {H : Hp} {b : Addr} {o : Obj} (e : h.get? b = some o) (n : H b = none) : (hidT h H).get? b = some o :=
  PySem.W.hideAll_get _ e fun hm => by
    have q : (H b).isSome = true := (List.mem_filter.mp hm).2
    rw [n] at q; simp at q
theorem of_hidT {h : Heap} {H : Hp} {b : Addr} {o : Obj} (e : (hidT h H).get? b = some o) : h.get? b = some o ∧ H b = none := by
  have e' : h.get? b = some o := PySem.W.of_hideAll (trk h H) e
  refine ⟨e', ?_⟩
  cases q : H b with
  | none => rfl
  | some x =>
    have hm : b ∈ trk h H := List.mem_filter.mpr ⟨List.mem_range.mpr (Heap.lt_size e'), by simp [q]⟩
    have z : (hidT h H).get? b = none := PySem.W.hideAll_none (trk h H) hm
    rw [z] at e; cases e
def allNews (g h : Heap) (L : Addr) : List (Addr × Obj) := (List.range h.objs.size).filterMap fun a => if a = L ∨ (g.get? a).isSome = true then none else (h.get? a).map fun o => (a, o)
def rest (g h : Heap) (L d : Addr) : List (Addr × Obj) := (allNews g h L).filter fun p => decide (p.1 ≠ d)
end L2

namespace L2
open PySem PySem.Spec PyProof.Rows
structure Mod (K : PySem.W.Frag) (mg : Str → Option Value) (base : Heap) : Prop where
  kin : K.In base
  glob : base.Ns mainGlobals mg
  blt : ∃ mb, base.Ns builtinsNs mb ∧ ∀ x : Str, x ≠ "__name__" → mb x = bootBuiltins x
  nolimit : base.NoLimit

/-- the context: a def's body (or a comprehension's block) running. base: fixed through the whole law; s₀, H₀: the entry; outer: the frames whose slots others may change (a def's callers); stack: all frames that run;
   ex: iterators that were made ahead of the entry and are walked here (a comprehension's); fn: the names whose cells were made at the entry (a def: all; a comprehension's block: its own); calm: not within an except suite; pn: pins that every state bears; xe: what is wanted of an exception that leaves the code -/
structure Cx where
  prog : Program
  w : World
  K : PySem.W.Frag
  mg : Str → Option Value
  base : Heap
  A : Around
  N : List Str
  s₀ : Shared
  H₀ : Hp
  env : Env
  outer : List Env
  stack : List Env
  ex : List Addr
  fn : Str → Bool
  calm : Bool
  pn : List (Addr × Obj)
  xe : Value → Shared → Prop
def frs (l : List Env) : List Addr := l.filterMap (·.frame)
abbrev Cx.fs (X : Cx) : List Addr := frs X.outer

def Vis (sc : Scope) (x : Str) : Prop := sc.names.lookup x = some .local ∨ sc.names.lookup x = some .cell ∨ sc.names.lookup x = some .free
def Loc (sc : Scope) (x : Str) : Prop := sc.names.lookup x = some .local ∨ sc.names.lookup x = some .cell
def Look (env : Env) (h : Heap) (m : Str → Option Value) (x : Str) (u : Value) : Prop :=
  (env.kindOf x = some .local ∧ m x = some u) ∨ ((env.kindOf x = some .cell ∨ env.kindOf x = some .free) ∧ ∃ c, env.cells.lookup x = some c ∧ h.IsCell c (some u))

structure Cx.Ok (X : Cx) : Prop where
  mod : Mod X.K X.mg X.base
  kind : X.env.scope.kind = .function
  glob : X.env.globals = mainGlobals
  blt : X.env.builtins = builtinsNs
  above : X.s₀.heap.objs.size ≤ X.env.locals
  inj : ∀ x y c, X.env.cells.lookup x = some c → X.env.cells.lookup y = some c → x = y
  has : ∀ x, (X.env.kindOf x = some .cell ∨ X.env.kindOf x = some .free) → ∃ c, X.env.cells.lookup x = some c
  cab : ∀ x c, X.fn x = true → X.env.cells.lookup x = some c → X.s₀.heap.objs.size ≤ c
  hd : X.calm = true → X.A.handled = none
  frames : X.A.frames = some X.stack
  stk : X.stack = X.outer ∨ (X.stack = X.env :: X.outer ∧ X.env.frame = some X.env.locals)
  exf : ∀ b ∈ X.ex, b ≠ X.env.locals ∧ ∀ x c, X.env.cells.lookup x = some c → c ≠ b
  bs : ∀ b o, X.base.get? b = some o → X.s₀.heap.get? b = some o ∧ X.H₀ b = none
  bsz : X.base.objs.size ≤ X.s₀.heap.objs.size
  noex : ∀ b o, X.base.get? b = some o → b ∉ X.ex
  exfs : ∀ b ∈ X.ex, b ∉ X.fs
  funs : X.s₀.heap.FunFrames X.base X.outer
  frf : ∀ b ∈ X.fs, X.H₀ b = none

structure Inv (X : Cx) (pins : List (Addr × Obj)) (σ : List (Option V)) (H : Hp) (s : Shared) : Prop where
  ok : X.Ok
  os : s.os = X.s₀.os
  bare : AllBare s.gens
  base : Un X.fs X.ex X.H₀ H X.s₀.heap s.heap
  loc : ∃ m, s.heap.Ns X.env.locals m ∧ ∀ (i : Nat) (x : Str) (v : V), X.N[i]? = some x → σ[i]? = some (some v) → Vis X.env.scope x → ∃ u, RelV v u ∧ Look X.env s.heap m x u
  cell : ∀ x c, X.env.cells.lookup x = some c → ∃ v, s.heap.IsCell c v
  free : H X.env.locals = none
  freeC : ∀ x c, X.env.cells.lookup x = some c → H c = none
  pin : ∀ p ∈ X.pn ++ pins, s.heap.get? p.1 = some p.2 ∧ H p.1 = none ∧ p.1 ≠ X.env.locals ∧ p.1 ∉ X.fs ∧ ∀ v, p.2.data ≠ .cell v
  hok : HOk X.prog X.w H s.heap
  len : σ.length = X.N.length

section
variable {X : Cx} {pins : List (Addr × Obj)} {σ : List (Option V)} {H H' : Hp} {s : Shared} {h' : Heap}

theorem Cx.Ok.nofr (ok : X.Ok) {b : Addr} {o : Obj} (e : X.base.get? b = some o) : b ∉ X.fs := fun hb => by
  have := (ok.funs.mem hb).1
  rw [e] at this; cases this
theorem Inv.bs (I : Inv X pins σ H s) : ∀ b o, X.base.get? b = some o → s.heap.get? b = some o ∧ H b = none := fun b o e =>
  ⟨I.base.keep b o (I.ok.bs b o e).1 (I.ok.bs b o e).2 (I.ok.nofr e) (I.ok.noex b o e), I.base.free b o (I.ok.bs b o e).1 (I.ok.bs b o e).2 (I.ok.noex b o e)⟩
theorem Inv.bk (I : Inv X pins σ H s) : ∀ b o, X.base.get? b = some o → s.heap.get? b = some o := fun b o e => (I.bs b o e).1
theorem Inv.mod (I : Inv X pins σ H s) : Mod X.K X.mg X.base := I.ok.mod
theorem Inv.kIn (I : Inv X pins σ H s) : X.K.In s.heap := I.ok.mod.kin.keeps I.bk
theorem Inv.lt (I : Inv X pins σ H s) : X.env.locals < s.heap.objs.size := let ⟨_, hn, _⟩ := I.loc; hn.lt
theorem Inv.sz (I : Inv X pins σ H s) : X.s₀.heap.objs.size ≤ s.heap.objs.size := Nat.le_trans I.ok.above (Nat.le_of_lt I.lt)
theorem Inv.nofs (I : Inv X pins σ H s) {a : Addr} (h : s.heap.objs.size ≤ a) : a ∉ X.fs := fun hb => by
  obtain ⟨_, o, ho, _⟩ := I.ok.funs.mem hb
  exact absurd (Nat.lt_of_lt_of_le (Heap.lt_size ho) (Nat.le_trans I.sz h)) (Nat.lt_irrefl _)
theorem Inv.cne (I : Inv X pins σ H s) : ∀ x c, X.env.cells.lookup x = some c → c ≠ X.env.locals := fun x c e z => by
  obtain ⟨v, o, ho, hd⟩ := I.cell x c e
  obtain ⟨m, ⟨o', es, ep, ho', hd', _⟩, _⟩ := I.loc
  rw [z, ho'] at ho; cases ho; rw [hd'] at hd; cases hd
theorem Inv.funs (I : Inv X pins σ H s) : s.heap.FunFrames X.base X.outer := by
  have all : ∀ (l : List Env), (∀ b ∈ frs l, b ∈ X.fs) → X.s₀.heap.FunFrames X.base l → s.heap.FunFrames X.base l := by
    intro l
    induction l with
    | nil => intro _ _; trivial
    | cons env r ih =>
      intro hs hl
      obtain ⟨hk, ⟨L, o, hf, hn, ho, hd⟩, hr⟩ := hl
      have hL : L ∈ X.fs := hs L (by unfold frs; rw [List.filterMap_cons, hf]; exact List.mem_cons_self)
      obtain ⟨sl, e⟩ := I.base.slot L o ho (I.ok.frf L hL) hL fun z => I.ok.exfs L z hL
      exact ⟨hk, ⟨L, _, hf, hn, e, hd⟩, ih (fun b hb => hs b (by unfold frs; rw [List.filterMap_cons, hf]; exact List.mem_cons_of_mem _ hb)) hr⟩
  exact all X.outer (fun _ hb => hb) I.ok.funs
theorem Inv.stack (I : Inv X pins σ H s) : s.heap.FunFrames X.base X.stack := by
  rcases I.ok.stk with e | ⟨e, hf⟩
  · rw [e]; exact I.funs
  · rw [e]
    obtain ⟨m, hn, _⟩ := I.loc
    refine .cons (by rw [I.ok.kind]; decide) hf hn ?_ I.funs
    exact Heap.get?_none_of_le (Nat.le_trans I.ok.bsz I.ok.above)
theorem Inv.stkSub (I : Inv X pins σ H s) : ∀ b ∈ frs X.stack, b ∈ X.env.locals :: X.fs := fun b hb => by
  rcases I.ok.stk with e | ⟨e, hf⟩
  · rw [e] at hb; exact List.mem_cons_of_mem _ hb
  · rw [e] at hb
    unfold frs at hb
    rw [List.filterMap_cons, hf] at hb
    exact hb
theorem Inv.stkFree (I : Inv X pins σ H s) : ∀ b ∈ frs X.stack, H b = none := fun b hb => by
  rcases List.mem_cons.mp (I.stkSub b hb) with e | hb
  · rw [e]; exact I.free
  · obtain ⟨_, o, ho, _⟩ := I.ok.funs.mem hb
    exact I.base.free b o ho (I.ok.frf b hb) fun z => I.ok.exfs b z hb
theorem Inv.step {g' : Array GenState} {t' : Nat} {d' : Drawn} {ch : List Addr} (I : Inv X pins σ H s)
    (hch : ∀ b ∈ ch, (b ∈ X.ex ∨ X.s₀.heap.objs.size ≤ b) ∧ b ≠ X.env.locals ∧ (∀ x c, X.env.cells.lookup x = some c → c ≠ b) ∧ ∀ p ∈ X.pn ++ pins, p.1 ≠ b)
    (keep : ∀ b o, b ≠ X.env.locals → b ∉ X.fs → b ∉ ch → s.heap.get? b = some o → H b = none → h'.get? b = some o)
    (slot : ∀ b o, b ≠ X.env.locals → b ∈ X.fs → b ∉ ch → s.heap.get? b = some o → H b = none → ∃ sl, h'.get? b = some { o with slots := sl }) (free : ∀ b o, b ∉ ch → s.heap.get? b = some o → H b = none → H' b = none)
    (there : ∀ b o, b ∉ ch → s.heap.get? b = some o → ∃ o', h'.get? b = some o')
    (tups : ∀ b xs, H b = some (.tup xs) → H' b = some (.tup xs)) (frzs : ∀ b o u, H b = some (.frz o u) → H' b = some (.frz o u)) (tbls : ∀ b ps, H b = some (.tbl ps) → ∃ more, H' b = some (.tbl (ps ++ more)))
    (ns : ∀ m, s.heap.Ns X.env.locals m → h'.Ns X.env.locals m) (hok : HOk X.prog X.w H' h') (hg : AllBare g') :
    Inv X pins σ H' { s with heap := h', gens := g', drawn := d', toks := t' } := by
  have neL : ∀ b o, X.s₀.heap.get? b = some o → b ≠ X.env.locals := fun b o e => Nat.ne_of_lt (Nat.lt_of_lt_of_le (Heap.lt_size e) I.ok.above)
  have neC : ∀ b o, X.s₀.heap.get? b = some o → b ∉ X.ex → b ∉ ch := fun b o e hx hb => by
    rcases (hch b hb).1 with z | z
    · exact hx z
    · exact absurd (Nat.lt_of_lt_of_le (Heap.lt_size e) z) (Nat.lt_irrefl _)
  have cellK : ∀ x c, X.env.cells.lookup x = some c → ∀ v, s.heap.IsCell c v → h'.IsCell c v := fun x c e v ⟨o, ho, hd⟩ => by
    have nch : c ∉ ch := fun z => (hch c z).2.2.1 x c e rfl
    by_cases hc : c ∈ X.fs
    · obtain ⟨sl, q⟩ := slot c o (I.cne x c e) hc nch ho (I.freeC x c e)
      exact ⟨_, q, hd⟩
    · exact ⟨o, keep c o (I.cne x c e) hc nch ho (I.freeC x c e), hd⟩
  refine ⟨I.ok, I.os, hg, ⟨fun b o e n hb hx => ?_, fun b o e n hb hx => ?_, fun b o e n hx => ?_, fun b o e hx => ?_, fun b xs e => tups b xs (I.base.tups b xs e), fun b o xs e => frzs b o xs (I.base.frzs b o xs e), fun b ps e => ?_⟩, ?_, fun x c e => ?_, ?_, fun x c e => ?_, fun p hp => ?_, hok, I.len⟩
  · exact keep b o (neL b o e) hb (neC b o e hx) (I.base.keep b o e n hb hx) (I.base.free b o e n hx)
  · obtain ⟨sl, e1⟩ := I.base.slot b o e n hb hx
    obtain ⟨sl', e2⟩ := slot b _ (neL b o e) hb (neC b o e hx) e1 (I.base.free b o e n hx)
    exact ⟨sl', e2⟩
  · obtain ⟨o', e1⟩ := I.base.there b o e hx
    exact free b o' (neC b o e hx) e1 (I.base.free b o e n hx)
  · obtain ⟨o', e1⟩ := I.base.there b o e hx
    exact there b o' (neC b o e hx) e1
  · obtain ⟨m1, e1⟩ := I.base.tbls b ps e
    obtain ⟨m2, e2⟩ := tbls b _ e1
    exact ⟨m1 ++ m2, by rw [e2, Array.append_assoc]⟩
  · obtain ⟨m, hn, hl⟩ := I.loc
    refine ⟨m, ns m hn, fun i x v e1 e2 e3 => ?_⟩
    obtain ⟨u, r, l⟩ := hl i x v e1 e2 e3
    refine ⟨u, r, ?_⟩
    rcases l with l | ⟨k, c, e, z⟩
    · exact .inl l
    · exact .inr ⟨k, c, e, cellK x c e _ z⟩
  · obtain ⟨v, z⟩ := I.cell x c e
    exact ⟨v, cellK x c e v z⟩
  · obtain ⟨m, ⟨o, _, _, ho, _⟩, _⟩ := I.loc
    exact free _ o (fun z => (hch _ z).2.1 rfl) ho I.free
  · obtain ⟨v, o, ho, hd⟩ := I.cell x c e
    exact free c o (fun z => (hch c z).2.2.1 x c e rfl) ho (I.freeC x c e)
  · obtain ⟨e, n, ne, nf, d⟩ := I.pin p hp
    have nch : p.1 ∉ ch := fun z => (hch p.1 z).2.2.2 p hp rfl
    exact ⟨keep p.1 p.2 ne nf nch e n, free p.1 p.2 nch e n, ne, nf, d⟩
theorem Inv.un {t' : Nat} (I : Inv X pins σ H s) (u : Un X.fs [] H H' s.heap h') (hok : HOk X.prog X.w H' h') : Inv X pins σ H' { s with heap := h', toks := t' } := by
  obtain ⟨m, ⟨o, es, ep, ho, r⟩, _⟩ := id I.loc
  obtain ⟨sl, hL⟩ := u.any ho I.free (by simp)
  exact I.step (g' := s.gens) (d' := s.drawn) (ch := []) (fun _ z => nomatch z) (fun b o _ hb _ e n => u.keep b o e n hb (by simp)) (fun b o _ hb _ e n => u.slot b o e n hb (by simp)) (fun b o _ e n => u.free b o e n (by simp)) (fun b o _ e => u.there b o e (by simp)) u.tups u.frzs u.tbls (fun m' hm => by
    obtain ⟨o', es', ep', ho', r'⟩ := hm
    rw [ho] at ho'; cases ho'
    exact ⟨_, es', ep', hL, r'⟩) hok I.bare
theorem Inv.call {g' : Array GenState} {t' : Nat} {d' : Drawn} {ch : List Addr} (I : Inv X pins σ H s) (u : Un (frs X.stack) ch H H' s.heap h') (hok : HOk X.prog X.w H' h') (hg : AllBare g')
    (hch : ∀ b ∈ ch, (b ∈ X.ex ∨ X.s₀.heap.objs.size ≤ b) ∧ b ≠ X.env.locals ∧ (∀ x c, X.env.cells.lookup x = some c → c ≠ b) ∧ ∀ p ∈ X.pn ++ pins, p.1 ≠ b) :
    Inv X pins σ H' { s with heap := h', gens := g', drawn := d', toks := t' } := by
  obtain ⟨m, ⟨o, es, ep, ho, r⟩, _⟩ := id I.loc
  obtain ⟨sl, hL⟩ := u.any ho I.free fun z => (hch _ z).2.1 rfl
  exact I.step (ch := ch) hch (fun b o hL hb hc e n => u.keep b o e n (fun z => (List.mem_cons.mp (I.stkSub b z)).elim hL hb) hc) (fun b o _ _ hc e n => u.any e n hc) (fun b o hc e n => u.free b o e n hc) (fun b o hc e => u.there b o e hc) u.tups u.frzs u.tbls (fun m' hm => by
    obtain ⟨o', es', ep', ho', r'⟩ := hm
    rw [ho] at ho'; cases ho'
    exact ⟨_, es', ep', hL, r'⟩) hok hg
theorem Inv.turned {t' : Nat} {it : Addr} (I : Inv X pins σ H s) (k : ∀ b o, b ≠ it → s.heap.get? b = some o → h'.get? b = some o) (hn : H it = none) (hL : it ≠ X.env.locals)
    (h1 : it ∈ X.ex ∨ X.s₀.heap.objs.size ≤ it) (h2 : ∀ x c, X.env.cells.lookup x = some c → c ≠ it) (h3 : ∀ p ∈ X.pn ++ pins, p.1 ≠ it) : Inv X pins σ H { s with heap := h', toks := t' } := by
  have nit : ∀ b u, H b = some u → b ≠ it := fun b u e z => by rw [z, hn] at e; cases e
  refine I.step (g' := s.gens) (d' := s.drawn) (ch := [it]) (fun b hb => ?_) (fun b o _ _ hc e _ => k b o (fun z => hc (by simp [z])) e) (fun b o _ _ hc e _ => ⟨o.slots, k b o (fun z => hc (by simp [z])) e⟩) (fun _ _ _ _ n => n)
    (fun b o hc e => ⟨o, k b o (fun z => hc (by simp [z])) e⟩) (fun _ _ e => e) (fun _ _ _ e => e) (fun b ps e => ⟨#[], by rw [e]; simp⟩) (fun m hm => ?_) (fun b u e => ?_) I.bare
  · have e : b = it := by simpa using hb
    subst e
    exact ⟨h1, hL, h2, h3⟩
  · obtain ⟨o, es, ep, ho, r⟩ := hm
    exact ⟨o, es, ep, k _ o (Ne.symm hL) ho, r⟩
  · refine (I.hok b u e).stay (fun c v hc q => k c v ?_ q) (fun _ q => q) fun _ _ q => q
    rcases hc with z | z
    · rw [z]; exact nit b u e
    · exact nit c _ z
theorem Inv.tok (I : Inv X pins σ H s) (t : Nat) : Inv X pins σ H { s with toks := t } := I.un (h' := s.heap) (t' := t) Un.refl I.hok
theorem Inv.kept {t' : Nat} (I : Inv X pins σ H s) (k : ∀ b u, s.heap.get? b = some u → h'.get? b = some u) : Inv X pins σ H { s with heap := h', toks := t' } := I.un (Un.kept k) (I.hok.kept k)
theorem Inv.laid {a : Addr} {o : HO} {t' : Nat} (I : Inv X pins σ H s) (k : ∀ b u, s.heap.get? b = some u → h'.get? b = some u) (hp : s.heap.objs.size ≤ a) (new : ObjOk X.prog X.w (upd H a o) h' a o) :
    Inv X pins σ (upd H a o) { s with heap := h', toks := t' } := I.un (Un.laid k hp (I.hok.fresh hp)) (I.hok.laid k hp new)
theorem Inv.write {x e : Addr} {o : HO} {t' : Nat} (I : Inv X pins σ H s) (mu : Mut (H x)) (he : e = x ∨ H e = some (.own x)) (k : ∀ b u, b ≠ e → s.heap.get? b = some u → h'.get? b = some u) (heo : ∃ u, h'.get? e = some u)
    (new : ObjOk X.prog X.w (upd H x o) h' x o) : Inv X pins σ (upd H x o) { s with heap := h', toks := t' } := I.un (Un.write mu he k heo) (I.hok.write mu he k heo new)
theorem Inv.pins_of {pins' : List (Addr × Obj)} (I : Inv X pins σ H s) (h : ∀ p ∈ pins', s.heap.get? p.1 = some p.2 ∧ H p.1 = none ∧ p.1 ≠ X.env.locals ∧ p.1 ∉ X.fs ∧ ∀ v, p.2.data ≠ .cell v) : Inv X pins' σ H s :=
  ⟨I.ok, I.os, I.bare, I.base, I.loc, I.cell, I.free, I.freeC, fun p hp => (List.mem_append.mp hp).elim (fun z => I.pin p (List.mem_append_left _ z)) (h p), I.hok, I.len⟩

theorem nodup_ix {N : List Str} (hN : N.Nodup) {i j : Nat} {x : Str} (a : N[i]? = some x) (b : N[j]? = some x) : i = j := by
  obtain ⟨h1, e1⟩ := List.getElem?_eq_some_iff.mp a
  obtain ⟨h2, e2⟩ := List.getElem?_eq_some_iff.mp b
  exact (List.getElem_inj hN).mp (e1.trans e2.symm)
theorem store_ok2 {M : Model} {A : Around} {E : Value → Shared → Prop} {i : Nat} {x : Str} {v : V} {u : Value} {Q : Unit → Shared → Prop} (I : Inv X pins σ H s) (hN : X.N.Nodup) (hi : X.N[i]? = some x) (hx : Loc X.env.scope x) (r : RelV v u)
    (h : ∀ s', Inv X pins (σ.set i (some v)) H s' → (∃ a, Heap.SameBut a s.heap s'.heap ∧ (a = X.env.locals ∨ X.env.cells.lookup x = some a)) → Q () s') (hf : X.fn x = true ∨ X.env.scope.names.lookup x = some .local := by first | exact .inl rfl | exact .inr rfl | assumption) : wpAny M A (storeName X.env x u) Q E s := by
  obtain ⟨m, hn, hl⟩ := id I.loc
  have hcls : (X.env.scope.kind == .class || (X.env.scope.kind == .module && X.env.locals != X.env.globals)) = false := by rw [I.ok.kind]; rfl
  have hiσ : i < σ.length := by rw [I.len]; exact (List.getElem?_eq_some_iff.mp hi).1
  have cne := I.cne
  have tracked : ∀ {a : Addr} {h' : Heap}, (∃ o, s.heap.get? a = some o ∧ H a = none) → Heap.SameBut a s.heap h' → HOk X.prog X.w H h' := fun {a h'} ha hs b ob e => by
    obtain ⟨_, _, hfree⟩ := ha
    refine (I.hok b ob e).stay (fun c w' hc q => (hs.2 c ?_).trans q) (fun _ q => q) fun _ _ q => q
    rintro rfl
    rcases hc with rfl | hc
    · rw [hfree] at e; cases e
    · rw [hfree] at hc; cases hc
  rcases hx with hk | hk
  · refine wpAny_storeName_local hk hn (fun h' hn' hs => ?_) hcls
    obtain ⟨oL, _, _, hoL, _⟩ := id hn
    refine h _ ⟨I.ok, I.os, I.bare, ⟨fun b o e n hb hx => ?_, fun b o e n hb hx => ?_, I.base.free, fun b o e hx => ?_, I.base.tups, I.base.frzs, I.base.tbls⟩, ⟨_, hn', fun j y v' e1 e2 e3 => ?_⟩, fun y c e => ?_, I.free, I.freeC, fun p hp => ?_, tracked ⟨oL, hoL, I.free⟩ hs, by simpa using I.len⟩ ⟨_, hs, .inl rfl⟩
    · exact (hs.2 b (Nat.ne_of_lt (Nat.lt_of_lt_of_le (Heap.lt_size e) I.ok.above))).trans (I.base.keep b o e n hb hx)
    · obtain ⟨sl, e1⟩ := I.base.slot b o e n hb hx
      exact ⟨sl, (hs.2 b (Nat.ne_of_lt (Nat.lt_of_lt_of_le (Heap.lt_size e) I.ok.above))).trans e1⟩
    · obtain ⟨o', e1⟩ := I.base.there b o e hx
      exact ⟨o', (hs.2 b (Nat.ne_of_lt (Nat.lt_of_lt_of_le (Heap.lt_size e) I.ok.above))).trans e1⟩
    · by_cases hj : j = i
      · subst hj
        rw [hi] at e1; cases e1
        rw [List.getElem?_set_self hiσ] at e2
        cases e2
        exact ⟨u, r, .inl ⟨hk, by simp⟩⟩
      · rw [List.getElem?_set_ne (Ne.symm hj)] at e2
        obtain ⟨u', r', q⟩ := hl j y v' e1 e2 e3
        refine ⟨u', r', ?_⟩
        rcases q with ⟨k, e⟩ | ⟨k, c, e, z⟩
        · refine .inl ⟨k, ?_⟩
          have : y ≠ x := fun e => hj (nodup_ix hN e1 (e ▸ hi))
          simp [this, e]
        · exact .inr ⟨k, c, e, z.sameBut hs (cne y c e)⟩
    · obtain ⟨w', z⟩ := I.cell y c e
      exact ⟨w', z.sameBut hs (cne y c e)⟩
    · obtain ⟨e, n, ne, nf, d⟩ := I.pin p hp
      exact ⟨(hs.2 p.1 ne).trans e, n, ne, nf, d⟩
  · have hfn : X.fn x = true := by
      rcases hf with z | z
      · exact z
      · rw [z] at hk; cases hk
    obtain ⟨c, hc⟩ := I.ok.has x (.inl hk)
    obtain ⟨w', z⟩ := I.cell x c hc
    refine wpAny_storeName_cell I.ok.kind hk hc z (fun h' hc' hs => ?_)
    obtain ⟨oc, hoc, hocd⟩ := id z
    refine h { s with heap := h' } ⟨I.ok, I.os, I.bare, ⟨fun b o e n hb hx => ?_, fun b o e n hb hx => ?_, I.base.free, fun b o e hx => ?_, I.base.tups, I.base.frzs, I.base.tbls⟩, ⟨m, hn.sameBut hs (Ne.symm (cne x c hc)), fun j y v' e1 e2 e3 => ?_⟩, fun y c' e => ?_, I.free, I.freeC, fun p hp => ?_, tracked ⟨oc, hoc, I.freeC x c hc⟩ hs, by simpa using I.len⟩ ⟨c, hs, .inr hc⟩
    · exact (hs.2 b (Nat.ne_of_lt (Nat.lt_of_lt_of_le (Heap.lt_size e) (I.ok.cab x c hfn hc)))).trans (I.base.keep b o e n hb hx)
    · obtain ⟨sl, e1⟩ := I.base.slot b o e n hb hx
      exact ⟨sl, (hs.2 b (Nat.ne_of_lt (Nat.lt_of_lt_of_le (Heap.lt_size e) (I.ok.cab x c hfn hc)))).trans e1⟩
    · obtain ⟨o', e1⟩ := I.base.there b o e hx
      exact ⟨o', (hs.2 b (Nat.ne_of_lt (Nat.lt_of_lt_of_le (Heap.lt_size e) (I.ok.cab x c hfn hc)))).trans e1⟩
    · by_cases hj : j = i
      · subst hj
        rw [hi] at e1; cases e1
        rw [List.getElem?_set_self hiσ] at e2
        cases e2
        exact ⟨u, r, .inr ⟨.inl hk, c, hc, hc'⟩⟩
      · rw [List.getElem?_set_ne (Ne.symm hj)] at e2
        obtain ⟨u', r', q⟩ := hl j y v' e1 e2 e3
        refine ⟨u', r', ?_⟩
        rcases q with q | ⟨k, c', e, z'⟩
        · exact .inl q
        · refine .inr ⟨k, c', e, z'.sameBut hs ?_⟩
          rintro rfl
          exact hj (nodup_ix hN e1 (I.ok.inj _ _ _ e hc ▸ hi))
    · by_cases hcc : c' = c
      · subst hcc; exact ⟨_, hc'⟩
      · obtain ⟨w2, z2⟩ := I.cell y c' e
        exact ⟨w2, z2.sameBut hs hcc⟩
    · obtain ⟨e, n, ne, nf, d⟩ := I.pin p hp
      refine ⟨(hs.2 p.1 ?_).trans e, n, ne, nf, d⟩
      intro q
      rw [q, hoc] at e
      have q' : oc = p.2 := Option.some.inj e
      exact d w' (by rw [← q']; exact hocd)
theorem store_ok {M : Model} {A : Around} {E : Value → Shared → Prop} {i : Nat} {x : Str} {v : V} {u : Value} {Q : Unit → Shared → Prop} (I : Inv X pins σ H s) (hN : X.N.Nodup) (hi : X.N[i]? = some x) (hx : Loc X.env.scope x) (r : RelV v u)
    (h : ∀ s', Inv X pins (σ.set i (some v)) H s' → Q () s') (hf : X.fn x = true ∨ X.env.scope.names.lookup x = some .local := by first | exact .inl rfl | exact .inr rfl | assumption) : wpAny M A (storeName X.env x u) Q E s :=
  store_ok2 I hN hi hx r (fun s' I' _ => h s' I') hf
theorem Inv.call' {s' : Shared} {ch : List Addr} (I : Inv X pins σ H s) (ho : s'.os = s.os) (u : Un (frs X.stack) ch H H' s.heap s'.heap) (hok : HOk X.prog X.w H' s'.heap) (hg : AllBare s'.gens)
    (hch : ∀ b ∈ ch, (b ∈ X.ex ∨ X.s₀.heap.objs.size ≤ b) ∧ b ≠ X.env.locals ∧ (∀ x c, X.env.cells.lookup x = some c → c ≠ b) ∧ ∀ p ∈ X.pn ++ pins, p.1 ≠ b) : Inv X pins σ H' s' := by
  obtain ⟨h', g', d', t', o'⟩ := s'
  have e : o' = s.os := ho
  subst e
  exact I.call (g' := g') (t' := t') (d' := d') u hok hg hch
end
abbrev XK := Value → Option Addr → Hp → Prop
abbrev St := List (Option V)
abbrev VK := V → Hp → Prop
abbrev TE := St → Hp → VK → Prop
abbrev TT := St → Hp → (Bool → Hp → Prop) → Prop
abbrev TA := St → Hp → (List V → Hp → Prop) → Prop
structure Ends where
  nx : St → Hp → Prop
  rt : VK
  bk : St → Hp → Prop := fun _ _ => False
  ct : St → Hp → Prop := fun _ _ => False
abbrev TS := Ends → St → Hp → Prop

def EP (X : Cx) (pins : List (Addr × Obj)) (σ : St) (Q : VK) (u : Value) (s' : Shared) : Prop := ∃ v H', Inv X pins σ H' s' ∧ RelV v u ∧ Q v H'
def TP (X : Cx) (pins : List (Addr × Obj)) (σ : St) (Q : Bool → Hp → Prop) (b : Bool) (s' : Shared) : Prop := ∃ H', Inv X pins σ H' s' ∧ Q b H'
def AP (X : Cx) (pins : List (Addr × Obj)) (σ : St) (Q : List V → Hp → Prop) (us : List Value) (s' : Shared) : Prop := ∃ vs H', Inv X pins σ H' s' ∧ Vals vs us ∧ Q vs H'
def SP (X : Cx) (pins : List (Addr × Obj)) (D : Ends) (f : Flow) (s' : Shared) : Prop :=
  match f with
  | .next => ∃ σ' H', Inv X pins σ' H' s' ∧ D.nx σ' H'
  | .brk => ∃ σ' H', Inv X pins σ' H' s' ∧ D.bk σ' H'
  | .cont => ∃ σ' H', Inv X pins σ' H' s' ∧ D.ct σ' H'
  | .ret u => ∃ v σ' H', Inv X pins σ' H' s' ∧ RelV v u ∧ D.rt v H'

def PE (X : Cx) (e : Expr) (t : TE) : Prop :=
  ∀ (pins : List (Addr × Obj)) (s : Shared) (σ : St) (H : Hp) (Q : VK), Inv X pins σ H s → t σ H Q → wpAny (model X.prog X.w) X.A (eval e X.env) (EP X pins σ Q) X.xe s
def PT (X : Cx) (e : Expr) (t : TT) : Prop :=
  ∀ (pins : List (Addr × Obj)) (s : Shared) (σ : St) (H : Hp) (Q : Bool → Hp → Prop), Inv X pins σ H s → t σ H Q → wpAny (model X.prog X.w) X.A (isTrue e X.env (eval e X.env)) (TP X pins σ Q) X.xe s
def PW (X : Cx) (e : Expr) (t : TT) : Prop :=
  ∀ (whole : Sem Value) (pins : List (Addr × Obj)) (s : Shared) (σ : St) (H : Hp) (Q : Bool → Hp → Prop), Inv X pins σ H s → t σ H Q → wpAny (model X.prog X.w) X.A (isTrue e X.env whole) (TP X pins σ Q) X.xe s
theorem PW.pt {X : Cx} {e : Expr} {t : TT} (h : PW X e t) : PT X e t := h _
def PA (X : Cx) (es : List Expr) (t : TA) : Prop :=
  ∀ (pos : Pos) (pins : List (Addr × Obj)) (s : Shared) (σ : St) (H : Hp) (Q : List V → Hp → Prop), Inv X pins σ H s → t σ H Q → wpAny (model X.prog X.w) X.A (spliced (backTo pos (starEach es X.env))) (AP X pins σ Q) X.xe s
def PS (X : Cx) (st : Stmt) (t : TS) : Prop :=
  ∀ (pins : List (Addr × Obj)) (s : Shared) (σ : St) (H : Hp) (D : Ends), Inv X pins σ H s → t D σ H → wpAny (model X.prog X.w) X.A (exec st X.env) (SP X pins D) X.xe s
def PSs (X : Cx) (st : List Stmt) (t : TS) : Prop :=
  ∀ (pins : List (Addr × Obj)) (s : Shared) (σ : St) (H : Hp) (D : Ends), Inv X pins σ H s → t D σ H → wpAny (model X.prog X.w) X.A (execs st X.env) (SP X pins D) X.xe s
theorem thn {α : Type} {t : Sem α} {Q Q' : α → Shared → Prop} {M : Model} {A : Around} {E : Value → Shared → Prop} {s : Shared} (h : wpAny M A t Q E s) (hQ : ∀ a s, Q a s → Q' a s) : wpAny M A t Q' E s := wpAny_mono h hQ fun _ _ x => x
end L2

namespace L2
open PySem PySem.Spec PyProof.Rows
section
variable {X : Cx}
def tVar (i : Nat) : TE := fun σ H Q => ∃ v, σ[i]? = some (some v) ∧ Q v H
def tC (v : V) : TE := fun _ H Q => Q v H
theorem pe_var {i : Nat} {x : Str} {pos : Pos} (hN : X.N[i]? = some x) (hv : Vis X.env.scope x) (hd : (x == ("__debug__" : Str)) = false := by decide) (hcd : (x == ("__classdict__" : Str)) = false := by decide) : PE X (.Name x pos) (tVar i) := by
  intro pins s σ H Q I h
  obtain ⟨v, e, h⟩ := h
  obtain ⟨m, hn, hl⟩ := I.loc
  obtain ⟨u, r, l⟩ := hl i x v hN e hv
  have fin : EP X pins σ Q u s := ⟨v, H, I, r, h⟩
  rcases l with ⟨hk, hm⟩ | ⟨hk, c, hc, hcell⟩
  · exact wpAny_Name (wpAny_loadName_local I.ok.kind hk hn hm fin) hd
  · rcases hk with hk | hk
    · exact wpAny_Name (wpAny_loadName_cell I.ok.kind hk hc hcell fin) hd
    · exact wpAny_Name (wpAny_loadName_free I.ok.kind hk hc hcell fin hcd) hd
theorem pe_int {i j pos} : PE X (.Constant (.int i) j pos) (tC (.int i)) := fun _ _ _ H _ I h => wpAny_Constant_int ⟨.int i, H, I.tok _, ⟨_, rfl⟩, h⟩
theorem pe_bl {b j pos} : PE X (.Constant (.bool b) j pos) (tC (.bl b)) := fun _ _ _ H _ I h => Constant_bool ⟨.bl b, H, I, rfl, h⟩
theorem pe_non {j pos} : PE X (.Constant .none j pos) (tC .non) := fun _ _ _ H _ I h => Constant_none ⟨.non, H, I, rfl, h⟩
theorem pe_str {x j pos} : PE X (.Constant (.str x) j pos) (tC (.str x)) := fun _ _ _ H _ I h => Calls.Constant_str ⟨.str x, H, I.tok _, ⟨_, rfl⟩, h⟩
def Gl (X : Cx) (x : Str) : Prop := X.env.kindOf x = some .globalImplicit
theorem ld_glob {E : Value → Shared → Prop} {pins : List (Addr × Obj)} {s : Shared} {σ : St} {H : Hp} {x : Str} {u : Value} {pos : Pos} {Q : Value → Shared → Prop} (I : Inv X pins σ H s) (hg : Gl X x) (hm : X.mg x = some u) (h : Q u s)
    (hd : (x == ("__debug__" : Str)) = false := by decide) : wpAny (model X.prog X.w) X.A (eval (.Name x pos) X.env) Q E s :=
  Calls.Name_function_global I.ok.kind hg (Calls.loadGlobal_global (by rw [I.ok.glob]; exact I.mod.glob.keeps I.bk) hm h) hd
theorem ld_blt {E : Value → Shared → Prop} {pins : List (Addr × Obj)} {s : Shared} {σ : St} {H : Hp} {x : Str} {u : Value} {pos : Pos} {Q : Value → Shared → Prop} (I : Inv X pins σ H s) (hg : Gl X x) (hm : X.mg x = none) (hv : bootBuiltins x = some u) (h : Q u s)
    (hn : x ≠ "__name__" := by decide) (hd : (x == ("__debug__" : Str)) = false := by decide) : wpAny (model X.prog X.w) X.A (eval (.Name x pos) X.env) Q E s := by
  obtain ⟨mb, h1, h2⟩ := I.mod.blt
  exact Calls.Name_function_global I.ok.kind hg (Calls.loadGlobal_builtin (by rw [I.ok.glob]; exact I.mod.glob.keeps I.bk) hm (by rw [I.ok.blt]; exact h1.keeps I.bk) ((h2 x hn).trans hv) h) hd
theorem pe_bltn {x : Str} {v : V} {u : Value} {pos : Pos} (hg : Gl X x) (hm : X.mg x = none) (hv : bootBuiltins x = some u) (r : RelV v u) (hn : x ≠ "__name__" := by decide) (hd : (x == ("__debug__" : Str)) = false := by decide) : PE X (.Name x pos) (tC v) :=
  fun _ _ _ H _ I h => ld_blt I hg hm hv ⟨v, H, I, r, h⟩ hn hd
variable {a b : Expr} {ta tb : TE} {pos : Pos}
def tB (t : TE) : TT := fun σ H Q => t σ H fun x H1 => ∃ c, x = .bl c ∧ Q c H1
theorem pt_val {e : Expr} {t : TE} (h : PE X e t) (he : ∀ whole, isTrue e X.env whole = (do let v ← whole; standAt e.pos; holding [v] (truthy v)) := by intro _; rfl) : PT X e (tB t) := by
  intro pins s σ H Q I hw
  refine isTrue_plain (thn (h pins s σ H _ I hw) fun v s1 ⟨x, H1, I1, r1, q1⟩ => ?_) (he _)
  obtain ⟨d, rfl, q⟩ := q1
  cases r1
  exact wpAny_truthy_bool ⟨H1, I1, q⟩
variable {tA tB' : TT} {rest : List Expr}
def tAnd (t u : TT) : TT := fun σ H Q => t σ H fun c H1 => if c = true then u σ H1 Q else Q false H1
def tOr (t u : TT) : TT := fun σ H Q => t σ H fun c H1 => if c = true then Q true H1 else u σ H1 Q
def tNot (t : TT) : TT := fun σ H Q => t σ H fun c H1 => Q (!c) H1
theorem pw_and1 (ha : PT X a tA) : PW X (.BoolOp .And [a] pos) tA := by
  intro wh pins s σ H Q I h
  refine isTrue_and (thn (ha pins s σ H Q I h) fun c s1 e => ?_)
  cases c with
  | true => exact isTrue_and_nil e
  | false => exact e
theorem pw_or1 (ha : PT X a tA) : PW X (.BoolOp .Or [a] pos) tA := by
  intro wh pins s σ H Q I h
  refine isTrue_or (thn (ha pins s σ H Q I h) fun c s1 e => ?_)
  cases c with
  | false => exact isTrue_or_nil e
  | true => exact e
theorem pw_and (ha : PT X a tA) (hb : PW X (.BoolOp .And (b :: rest) pos) tB') : PW X (.BoolOp .And (a :: b :: rest) pos) (tAnd tA tB') := by
  intro wh pins s σ H Q I h
  refine isTrue_and (thn (ha pins s σ H _ I h) fun c s1 ⟨H1, I1, q1⟩ => ?_)
  cases c with
  | true => exact hb wh pins s1 σ H1 Q I1 q1
  | false => exact ⟨H1, I1, q1⟩
theorem pw_or (ha : PT X a tA) (hb : PW X (.BoolOp .Or (b :: rest) pos) tB') : PW X (.BoolOp .Or (a :: b :: rest) pos) (tOr tA tB') := by
  intro wh pins s σ H Q I h
  refine isTrue_or (thn (ha pins s σ H _ I h) fun c s1 ⟨H1, I1, q1⟩ => ?_)
  cases c with
  | true => exact ⟨H1, I1, q1⟩
  | false => exact hb wh pins s1 σ H1 Q I1 q1
theorem pt_not (ha : PT X a tA) : PT X (.UnaryOp .Not a pos) (tNot tA) := by
  intro pins s σ H Q I h
  exact isTrue_not (ha pins s σ H (fun c H1 => Q (!c) H1) I h)
def tAndV (ta tb : TE) : TE := fun σ H Q => ta σ H fun x H1 => ∃ c, x = .bl c ∧ if c = true then tb σ H1 Q else Q (.bl false) H1
def tNotV (ta : TE) : TE := fun σ H Q => ta σ H fun x H1 => ∃ c, x = .bl c ∧ Q (.bl (!c)) H1
theorem pe_one {op} {t : TE} (h : PE X a t) : PE X (.BoolOp op [a] pos) t := fun pins s σ H Q I hw => BoolOp_one (h pins s σ H Q I hw)
theorem pe_and (ha : PE X a ta) (hb : PE X (.BoolOp .And (b :: rest) pos) tb) : PE X (.BoolOp .And (a :: b :: rest) pos) (tAndV ta tb) := by
  intro pins s σ H Q I h
  refine BoolOp_and (thn (ha pins s σ H _ I h) fun v s1 ⟨x, H1, I1, r1, q1⟩ => ?_)
  obtain ⟨c, rfl, q1⟩ := q1
  cases r1
  refine wpAny_truthy_bool ?_
  cases c with
  | true => exact hb pins s1 σ H1 Q I1 q1
  | false => exact ⟨.bl false, H1, I1, rfl, q1⟩
theorem pe_not (ha : PE X a ta) : PE X (.UnaryOp .Not a pos) (tNotV ta) := by
  intro pins s σ H Q I h
  refine UnaryOp_ (thn (ha pins s σ H _ I h) fun v s1 ⟨x, H1, I1, r1, q1⟩ => ?_)
  obtain ⟨c, rfl, q1⟩ := q1
  cases r1
  exact not_of (wpAny_truthy_bool ⟨.bl (!c), H1, I1, rfl, q1⟩)
end
end L2

namespace L2
open PySem PySem.Spec PyProof.Rows
def SqL (K : PySem.W.Frag) (H : Hp) (a : Addr) (xs : List V) : Prop :=
  Rd H a (.lst xs) ∨
    ∃ (o : Obj) (its : Array Value) (n : Nat), K.lookup a = some o ∧ o.cls = .type "list" ∧ o.dict = none ∧ o.data = .seq its n ∧ its.size ≤ sizeLine ∧ Vals xs its.toList
def SqT (K : PySem.W.Frag) (H : Hp) (a : Addr) (xs : List V) : Prop :=
  Rd H a (.tup xs) ∨
    ∃ (o : Obj) (its : Array Value) (n : Nat), K.lookup a = some o ∧ o.cls = .type "tuple" ∧ o.data = .seq its n ∧ its.size ≤ sizeLine ∧ Vals xs its.toList
def absV : Value → Option V
  | .none => some .non
  | .bool b => some (.bl b)
  | .int i _ => some (.int i)
  | .str x _ => some (.str x)
  | .bytes b _ => some (.byt b)
  | .float b _ => some (.flt b)
  | .ref a => some (.ref a)
  | .type n => some (.ty n)
  | _ => none
theorem RelV.abs {x : V} {u : Value} (r : RelV x u) : absV u = some x := by
  cases x with
  | non => cases r; rfl
  | bl _ => cases r; rfl
  | int _ => obtain ⟨t, rfl⟩ := r; rfl
  | str _ => obtain ⟨t, rfl⟩ := r; rfl
  | byt _ => obtain ⟨t, rfl⟩ := r; rfl
  | flt _ => obtain ⟨t, rfl⟩ := r; rfl
  | ref _ => cases r; rfl
  | ty _ => cases r; rfl
theorem RelV.inj {x y : V} {u : Value} (r : RelV x u) (q : RelV y u) : x = y := Option.some.inj (r.abs.symm.trans q.abs)
theorem Vals.inj : ∀ {xs ys : List V} {us : List Value}, Vals xs us → Vals ys us → xs = ys
  | _, _, _, .nil, .nil => rfl
  | _, _, _, .cons r t, .cons r' t' => by rw [r.inj r', Vals.inj t t']
section
variable {X : Cx} {pins : List (Addr × Obj)} {σ : St} {H : Hp} {s : Shared} {a : Addr} {xs ys : List V}
theorem SqL.of {K : PySem.W.Frag} (h : H a = some (.lst xs)) : SqL K H a xs := .inl (.inl h)
theorem SqT.of {K : PySem.W.Frag} (h : H a = some (.tup xs)) : SqT K H a xs := .inl (.inl h)
theorem Inv.list (I : Inv X pins σ H s) (h : SqL X.K H a xs) : ∃ its : List Value, Vals xs its ∧ PlainL s.heap a its.toArray ∧ xs.length ≤ sizeLine := by
  rcases h with h | ⟨o, its, n, hk, hc, hd, hs, hz, r⟩
  · obtain ⟨z, its, n, r, e⟩ := h.ok I.hok
    exact ⟨its, r, ⟨_, n, e, rfl, rfl, rfl⟩, z⟩
  · refine ⟨its.toList, r, ⟨o, n, I.kIn a o hk, hc, hd, by simpa using hs⟩, ?_⟩
    have e := r.length
    simp only [Array.length_toList] at e
    omega
theorem Inv.tuple (I : Inv X pins σ H s) (h : SqT X.K H a xs) : ∃ its : List Value, Vals xs its ∧ IsTup s.heap a its.toArray ∧ xs.length ≤ sizeLine := by
  rcases h with h | ⟨o, its, n, hk, hc, hs, hz, r⟩
  · obtain ⟨z, its, r, p⟩ := h.ok I.hok
    exact ⟨its, r, p.tup, z⟩
  · refine ⟨its.toList, r, ⟨o, I.kIn a o hk, hc, n, by simpa using hs⟩, ?_⟩
    have e := r.length
    simp only [Array.length_toList] at e
    omega
theorem Inv.list_inj (I : Inv X pins σ H s) (h : SqL X.K H a xs) (h' : SqL X.K H a ys) : xs = ys := by
  obtain ⟨its, r, ⟨o, n, e, _, _, d⟩, _⟩ := I.list h
  obtain ⟨its', r', ⟨o', n', e', _, _, d'⟩, _⟩ := I.list h'
  rw [e] at e'; cases e'
  rw [d] at d'
  injection d' with d1 _
  have : its = its' := by simpa using congrArg Array.toList d1
  subst this
  exact r.inj r'
theorem Inv.tuple_inj (I : Inv X pins σ H s) (h : SqT X.K H a xs) (h' : SqT X.K H a ys) : xs = ys := by
  obtain ⟨its, r, ⟨o, e, _, n, d⟩, _⟩ := I.tuple h
  obtain ⟨its', r', ⟨o', e', _, n', d'⟩, _⟩ := I.tuple h'
  rw [e] at e'; cases e'
  rw [d] at d'
  injection d' with d1 _
  have : its = its' := by simpa using congrArg Array.toList d1
  subst this
  exact r.inj r'
end
abbrev Cx.wish (X : Cx) (E : Value → Shared → Prop) : Cx := { X with xe := E }
abbrev Cx.nox (X : Cx) : Cx := X.wish fun _ _ => False
theorem Cx.Ok.wish {X : Cx} (ok : X.Ok) (E : Value → Shared → Prop) : (X.wish E).Ok :=
  ⟨ok.mod, ok.kind, ok.glob, ok.blt, ok.above, ok.inj, ok.has, ok.cab, ok.hd, ok.frames, ok.stk, ok.exf, ok.bs, ok.bsz, ok.noex, ok.exfs, ok.funs, ok.frf⟩
theorem Cx.Ok.unwish {X : Cx} {E : Value → Shared → Prop} (ok : (X.wish E).Ok) : X.Ok :=
  ⟨ok.mod, ok.kind, ok.glob, ok.blt, ok.above, ok.inj, ok.has, ok.cab, ok.hd, ok.frames, ok.stk, ok.exf, ok.bs, ok.bsz, ok.noex, ok.exfs, ok.funs, ok.frf⟩
section
variable {X : Cx} {pins : List (Addr × Obj)} {σ : St} {H : Hp} {s : Shared} {E : Value → Shared → Prop}
theorem Inv.wish (I : Inv X pins σ H s) (E : Value → Shared → Prop) : Inv (X.wish E) pins σ H s := ⟨I.ok.wish E, I.os, I.bare, I.base, I.loc, I.cell, I.free, I.freeC, I.pin, I.hok, I.len⟩
theorem Inv.unwish (I : Inv (X.wish E) pins σ H s) : Inv X pins σ H s := ⟨I.ok.unwish, I.os, I.bare, I.base, I.loc, I.cell, I.free, I.freeC, I.pin, I.hok, I.len⟩
theorem SP.unwish {D : Ends} {f : Flow} {s' : Shared} (h : SP (X.wish E) pins D f s') : SP X pins D f s' := by
  cases f with
  | next => obtain ⟨σ', H', I, q⟩ := h; exact ⟨σ', H', I.unwish, q⟩
  | brk => obtain ⟨σ', H', I, q⟩ := h; exact ⟨σ', H', I.unwish, q⟩
  | cont => obtain ⟨σ', H', I, q⟩ := h; exact ⟨σ', H', I.unwish, q⟩
  | ret u => obtain ⟨v, σ', H', I, r, q⟩ := h; exact ⟨v, σ', H', I.unwish, r, q⟩
theorem PSs.nox {st : List Stmt} {t : TS} (h : PSs X.nox st t) : PSs X st t := fun pins s σ H D I hw =>
  wpAny_mono (h pins s σ H D (I.wish _) hw) (fun _ _ q => q.unwish) fun _ _ z => False.elim z
end
section
variable {X : Cx} {st : Stmt} {rest : List Stmt} {t u : TS} {e : Expr} {te : TE} {pos : Pos}
def tNext : TS := fun D σ H => D.nx σ H
def tSeq (t u : TS) : TS := fun D σ H => t { D with nx := u D } σ H
theorem pss_nil : PSs X [] tNext := fun _ _ σ H _ I h => wpAny_execs_nil ⟨σ, H, I, h⟩
theorem pss_cons (h1 : PS X st t) (h2 : PSs X rest u) : PSs X (st :: rest) (tSeq t u) := by
  intro pins s σ H D I h
  refine wpAny_execs_cons (thn (h1 pins s σ H { D with nx := u D } I h) fun f s1 q => ?_)
  cases f with
  | next =>
    obtain ⟨σ', H', I', q⟩ := q
    exact h2 pins s1 σ' H' D I' q
  | ret v => exact q
  | brk => exact q
  | cont => exact q
theorem pss_one (h1 : PS X st t) : PSs X [st] t := by
  intro pins s σ H D I h
  refine wpAny_execs_cons (thn (h1 pins s σ H D I h) fun f s1 q => ?_)
  cases f with
  | next => exact wpAny_execs_nil q
  | ret v => exact q
  | brk => exact q
  | cont => exact q
theorem Inv.quiet {pins : List (Addr × Obj)} {σ : St} {H : Hp} {s : Shared} (I : Inv X pins σ H s) : interactive X.env = false := by simp [interactive, I.ok.kind]
def tDrop (te : TE) : TS := fun D σ H => te σ H fun _ H1 => D.nx σ H1
theorem ps_expr (he : PE X e te) (hs : swapsWith e none pos.line X.env = pure false := by rfl) : PS X (.Expr e pos) (tDrop te) := by
  intro pins s σ H D I h
  exact wpAny_Expr_any (thn (he pins s σ H _ I h) fun v s1 ⟨x, H1, I1, r1, q1⟩ => ⟨σ, H1, I1, q1⟩) I.quiet hs
def tRet (te : TE) : TS := fun D σ H => te σ H D.rt
theorem ps_ret (he : PE X e te) : PS X (.Return (some e) pos) (tRet te) := by
  intro pins s σ H D I h
  exact wpAny_Return_some (thn (he pins s σ H _ I h) fun v s1 ⟨x, H1, I1, r1, q1⟩ => ⟨x, σ, H1, I1, r1, q1⟩)
def tIfS (c : TT) (t u : TS) : TS := fun D σ H => c σ H fun b H1 => if b = true then t D σ H1 else u D σ H1
theorem ps_if {c : Expr} {a b : List Stmt} {tc : TT} (hc : PT X c tc) (ha : PSs X a t) (hb : PSs X b u) : PS X (.If c a b pos) (tIfS tc t u) := by
  intro pins s σ H D I h
  refine wpAny_If (thn (hc pins s σ H _ I h) fun d s1 ⟨H1, I1, q1⟩ => ?_)
  cases d with
  | true => exact ha pins s1 σ H1 D I1 q1
  | false => exact hb pins s1 σ H1 D I1 q1
end
abbrev TG := V → St → Hp → (St → Hp → Prop) → Prop
abbrev TGs := List V → St → Hp → (St → Hp → Prop) → Prop
def PG (X : Cx) (target : Expr) (t : TG) : Prop :=
  ∀ (pins : List (Addr × Obj)) (s : Shared) (σ : St) (H : Hp) (v : V) (u : Value) (Q : St → Hp → Prop), Inv X pins σ H s → RelV v u → t v σ H Q →
    wpAny (model X.prog X.w) X.A (assign target X.env u) (fun _ s' => ∃ σ' H', Inv X pins σ' H' s' ∧ Q σ' H') X.xe s
def PGs (X : Cx) (ts : List Expr) (t : TGs) : Prop :=
  ∀ (pins : List (Addr × Obj)) (s : Shared) (σ : St) (H : Hp) (vs : List V) (us : List Value) (Q : St → Hp → Prop), Inv X pins σ H s → Vals vs us → t vs σ H Q →
    wpAny (model X.prog X.w) X.A (assignInOrder ((assignEach ts X.env).map (·.2)) us) (fun _ s' => ∃ σ' H', Inv X pins σ' H' s' ∧ Q σ' H') X.xe s
abbrev TSet := V → V → V → Hp → (Hp → Prop) → Prop
def PSet (X : Cx) (t : TSet) : Prop :=
  ∀ (pins : List (Addr × Obj)) (s : Shared) (σ : St) (H : Hp) (o i v : V) (ov iv u : Value) (Q : Hp → Prop), Inv X pins σ H s → RelV o ov → RelV i iv → RelV v u → t o i v H Q →
    wpAny (model X.prog X.w) X.A (setItem ov iv u) (fun _ s' => ∃ H', Inv X pins σ H' s' ∧ Q H') X.xe s
abbrev TIp := V → V → Hp → VK → Prop
def PIp (X : Cx) (op : Operator) (t : TIp) : Prop :=
  ∀ (pins : List (Addr × Obj)) (s : Shared) (σ : St) (H : Hp) (x y : V) (v u : Value) (Q : VK), Inv X pins σ H s → RelV x v → RelV y u → t x y H Q →
    wpAny (model X.prog X.w) X.A (inplaceOp op v u) (EP X pins σ Q) X.xe s
section
variable {X : Cx} {pos : Pos}
def gName (i : Nat) : TG := fun v σ H Q => Q (σ.set i (some v)) H
theorem pg_name {i : Nat} {x : Str} (hN : X.N.Nodup) (hi : X.N[i]? = some x) (hx : Loc X.env.scope x) (hf : X.fn x = true ∨ X.env.scope.names.lookup x = some .local := by first | exact .inl rfl | exact .inr rfl | assumption) : PG X (.Name x pos) (gName i) := by
  intro pins s σ H v u Q I r h
  exact wpAny_assign_Name (store_ok I hN hi hx r (fun s' I' => ⟨_, H, I', h⟩) hf)
def gNil : TGs := fun vs σ H Q => vs = [] ∧ Q σ H
def gCons (t : TG) (u : TGs) : TGs := fun vs σ H Q => ∃ v r, vs = v :: r ∧ t v σ H fun σ' H' => u r σ' H' Q
theorem pgs_nil : PGs X [] gNil := by
  intro pins s σ H vs us Q I r h
  obtain ⟨e, h⟩ := h
  subst e
  cases r
  exact assignInOrder_nil ⟨σ, H, I, h⟩
theorem pgs_cons {e : Expr} {es : List Expr} {t : TG} {u : TGs} (h1 : PG X e t) (h2 : PGs X es u)
    (hs : (assignEach (e :: es) X.env).map (·.2) = assign e X.env :: (assignEach es X.env).map (·.2) := by rfl) : PGs X (e :: es) (gCons t u) := by
  intro pins s σ H vs us Q I r h
  obtain ⟨v, vr, e1, h⟩ := h
  subst e1
  cases r with
  | cons r rr =>
    rw [hs]
    refine assignInOrder_cons (thn (h1 pins s σ H _ _ _ I r h) fun _ s1 ⟨σ1, H1, I1, q1⟩ => ?_)
    exact h2 pins s1 σ1 H1 _ _ Q I1 rr q1
def gTup (K : PySem.W.Frag) (n : Nat) (t : TGs) : TG := fun v σ H Q => ∃ a xs, v = .ref a ∧ SqT K H a xs ∧ xs.length = n ∧ t xs σ H Q
theorem pg_tup {es : List Expr} {k : Nat} {t : TGs} {n : Nat} (hc : X.calm = true) (h : PGs X es t)
    (hn : (assignEach es X.env).length = n := by rfl) (hst : (assignEach es X.env).findIdx? (·.1) = none := by rfl) : PG X (.Tuple es k pos) (gTup X.K n t) := by
  intro pins s σ H v u Q I r hw
  obtain ⟨a, xs, e1, hq, hl, hw⟩ := hw
  subst e1
  cases r
  obtain ⟨its, rv, ht, hz⟩ := I.tuple hq
  refine assign_Tuple_tuple (I.ok.hd hc) ht (by simp [hn, ← hl, rv.length]) hst fun h' hx => ?_
  have I1 : Inv X pins σ H { s with heap := h' } := I.kept (t' := s.toks) fun b o e => hx b o (Nat.ne_of_lt (Heap.lt_size e)) e
  exact h pins _ σ H xs _ Q I1 (by simpa using rv) hw
def gSub (to ti : TE) (t : TSet) : TG := fun v σ H Q => to σ H fun o H1 => ti σ H1 fun i H2 => t o i v H2 fun H3 => Q σ H3
theorem pg_sub {o i : Expr} {to ti : TE} {t : TSet} (ho : PE X o to) (hi : PE X i ti) (hs : PSet X t)
    (ha : ∀ v, assign (.Subscript o i pos) X.env v = (do
      let ov ← holding [v] (eval o X.env)
      let iv ← holding [v, ov] (eval i X.env)
      standAt pos
      holding [v, ov, iv] (setItem ov iv v)
      release [v, ov, iv] []) := by intro _; rfl) : PG X (.Subscript o i pos) (gSub to ti t) := by
  intro pins s σ H v u Q I r h
  rw [ha]
  refine wpAny_bind (wpAny_holding (thn (ho pins s σ H _ I h) fun ov s1 ⟨x, H1, I1, r1, q1⟩ => ?_))
  refine wpAny_bind (wpAny_holding (thn (hi pins s1 σ H1 _ I1 q1) fun iv s2 ⟨y, H2, I2, r2, q2⟩ => ?_))
  refine wpAny_bind (wpAny_standAt (wpAny_bind (wpAny_holding (thn (hs pins s2 σ H2 x y v ov iv u _ I2 r1 r2 r q2) fun _ s3 ⟨H3, I3, q3⟩ => ?_))))
  exact wpAny_release ⟨σ, H3, I3, q3⟩
def tAsg (te : TE) (g : TG) : TS := fun D σ H => te σ H fun x H1 => g x σ H1 D.nx
theorem ps_asg {tg e : Expr} {te : TE} {g : TG} (he : PE X e te) (hg : PG X tg g) (hs : swapsWithSole [tg] e pos.line X.env = pure false := by rfl) (hw : swappedStores [tg] e X.env = pure none := by rfl)
    (h1 : (assignEach [tg] X.env).map (·.2) = [assign tg X.env] := by rfl) : PS X (.Assign [tg] e pos) (tAsg te g) := by
  intro pins s σ H D I h
  refine wpAny_Assign_stores (thn (he pins s σ H _ I h) fun v s1 ⟨x, H1, I1, r1, q1⟩ => ?_) hs hw
  rw [h1]
  exact thn (hg pins s1 σ H1 x v _ I1 r1 q1) fun _ s2 q => q
theorem ps_set {i : Nat} {x : Str} {e : Expr} {te : TE} {pos' : Pos} (hN : X.N.Nodup) (hi : X.N[i]? = some x) (hx : Loc X.env.scope x) (he : PE X e te) (hs : swapsWith e (some (.Name x pos')) pos.line X.env = pure false := by rfl) (hf : X.fn x = true ∨ X.env.scope.names.lookup x = some .local := by first | exact .inl rfl | exact .inr rfl | assumption) :
    PS X (.Assign [.Name x pos'] e pos) (tAsg te (gName i)) := by
  intro pins s σ H D I h
  refine wpAny_Assign_Name (thn (he pins s σ H _ I h) fun v s1 ⟨y, H1, I1, r1, q1⟩ => ?_) hs
  exact store_ok I1 hN hi hx r1 (fun s2 I2 => ⟨_, H1, I2, q1⟩) hf
def tPar (i j : Nat) (ta : TA) : TS := fun D σ H => ta σ H fun vs H1 => ∃ v w, vs = [v, w] ∧ D.nx ((σ.set i (some v)).set j (some w)) H1
theorem ps_par {i j : Nat} {x y : Str} {a b : Expr} {ta : TA} {px py pt : Pos} {kt k2 pt2} (hc : X.calm = true) (hN : X.N.Nodup) (hi : X.N[i]? = some x) (hj : X.N[j]? = some y) (hij : i ≠ j)
    (hx : X.env.scope.names.lookup x = some .local) (hy : X.env.scope.names.lookup y = some .local) (ha : PA X [a, b] ta)
    (hw : swappedStores [.Tuple [.Name x px, .Name y py] kt pt] (.Tuple [a, b] k2 pt2) X.env = pure (some [x, y]))
    (hs : swapsWithSole [.Tuple [.Name x px, .Name y py] kt pt] (.Tuple [a, b] k2 pt2) pos.line X.env = pure false := by rfl) :
    PS X (.Assign [.Tuple [.Name x px, .Name y py] kt pt] (.Tuple [a, b] k2 pt2) pos) (tPar i j ta) := by
  intro pins s σ H D I h
  rw [exec_Assign_arm]
  refine wpAny_bind (wpAny_standAt ?_)
  rw [hs]
  refine wpAny_bind (wpAny_pure ?_)
  rw [if_neg (by decide)]
  refine wpAny_bind (Tuple_ (thn (ha _ pins s σ H _ I h) fun us s1 ⟨vs, H1, I1, r1, q1⟩ => ?_))
  obtain ⟨v, w, e1, q1⟩ := q1
  subst e1
  obtain ⟨u1, u2, rfl, rv, rw'⟩ : ∃ u1 u2, us = [u1, u2] ∧ RelV v u1 ∧ RelV w u2 := by
    cases r1 with
    | cons p q =>
      cases q with
      | cons p' q' =>
        cases q'
        exact ⟨_, _, rfl, p, p'⟩
  refine wpAny_newObj_type ?_ (by show 2 ≤ sizeLine; decide)
  have I2 : Inv X pins σ H1 { s1 with heap := s1.heap.push { cls := .type "tuple", data := .seq [u1, u2].toArray } } := I1.kept (t' := s1.toks) fun b o e => Heap.get?_push_of_some _ e
  rw [hw]
  refine wpAny_bind (wpAny_pure ?_)
  show wpAny (model X.prog X.w) X.A (do rule "assign.swapped-stores"; let items ← unpackItems (.ref s1.heap.objs.size) 2 none; assignInOrder [fun v => bindName X.env y v, fun v => bindName X.env x v] items.reverse; pure Flow.next) _ _ _
  refine wpAny_bind (wpAny_rule (wpAny_bind (unpackItems_tuple (items := #[u1, u2]) (I.ok.hd hc) (IsTup.new s1.heap _) fun h' hx' => ?_)))
  have I3 := I2.kept (h' := h') (t' := s1.toks) fun b o e => hx' b o (Nat.ne_of_lt (Heap.lt_size e)) e
  show wpAny _ _ (assignInOrder [fun v => bindName X.env y v, fun v => bindName X.env x v] [u2, u1] >>= fun _ => pure Flow.next) _ _ _
  refine wpAny_bind (assignInOrder_cons (wpAny_bindName (store_ok I3 hN hj (.inl hy) rw' (fun s2 I4 => ?_) (.inr hy))))
  refine assignInOrder_cons (wpAny_bindName (store_ok I4 hN hi (.inl hx) rv (fun s3 I5 => assignInOrder_nil (wpAny_pure ?_)) (.inr hx)))
  rw [List.set_comm _ _ (Ne.symm hij)] at I5
  exact ⟨_, H1, I5, q1⟩
def tAug (i : Nat) (te : TE) (ti : TIp) : TS := fun D σ H => ∃ x, σ[i]? = some (some x) ∧ te σ H fun y H1 => ti x y H1 fun z H2 => D.nx (σ.set i (some z)) H2
theorem ps_aug {i : Nat} {x : Str} {e : Expr} {te : TE} {op : Operator} {ti : TIp} {pos' : Pos} (hN : X.N.Nodup) (hi : X.N[i]? = some x) (hx : Loc X.env.scope x) (he : PE X e te) (ho : PIp X op ti) (hf : X.fn x = true ∨ X.env.scope.names.lookup x = some .local := by first | exact .inl rfl | exact .inr rfl | assumption) :
    PS X (.AugAssign (.Name x pos') op e pos) (tAug i te ti) := by
  intro pins s σ H D I h
  obtain ⟨v, e1, h⟩ := h
  obtain ⟨m, hn, hl⟩ := I.loc
  have vis : Vis X.env.scope x := by rcases hx with k | k; exact .inl k; exact .inr (.inl k)
  obtain ⟨u, r, l⟩ := hl i x v hi e1 vis
  refine wpAny_AugAssign_Name ?_
  have go : wpAny (model X.prog X.w) X.A (eval e X.env) (fun w s₂ => wpAny (model X.prog X.w) X.A (inplaceOp op u w) (fun r s₃ => wpAny (model X.prog X.w) X.A (storeName X.env x r) (fun _ => SP X pins D .next) X.xe s₃) X.xe s₂) X.xe s := by
    refine thn (he pins s σ H _ I h) fun w s1 ⟨y, H1, I1, r1, q1⟩ => ?_
    refine thn (ho pins s1 σ H1 v y u w _ I1 r r1 q1) fun z s2 ⟨zv, H2, I2, r2, q2⟩ => ?_
    exact store_ok I2 hN hi hx r2 (fun s3 I3 => ⟨_, H2, I3, q2⟩) hf
  rcases l with ⟨hk, hm⟩ | ⟨hk, c, hc, hcell⟩
  · exact wpAny_loadName_local I.ok.kind hk hn hm go
  · rcases hk with hk | hk
    · exact wpAny_loadName_cell I.ok.kind hk hc hcell go
    · rcases hx with k | k
      · have : X.env.scope.names.lookup x = some .free := hk
        rw [k] at this; cases this
      · have : X.env.scope.names.lookup x = some .free := hk
        rw [k] at this; cases this
def tAugS (to ti te : TE) (tget : V → V → Hp → VK → Prop) (tip : TIp) (tset : TSet) : TS := fun D σ H => to σ H fun o H1 => ti σ H1 fun i H2 => tget o i H2 fun x H3 => te σ H3 fun y H4 => tip x y H4 fun z H5 => tset o i z H5 fun H6 => D.nx σ H6
def PGet (X : Cx) (t : V → V → Hp → VK → Prop) : Prop :=
  ∀ (pins : List (Addr × Obj)) (s : Shared) (σ : St) (H : Hp) (o i : V) (ov iv : Value) (Q : VK), Inv X pins σ H s → RelV o ov → RelV i iv → t o i H Q →
    wpAny (model X.prog X.w) X.A (getItem ov iv) (EP X pins σ Q) X.xe s
theorem ps_augS {o i e : Expr} {to ti te : TE} {tget : V → V → Hp → VK → Prop} {tip : TIp} {tset : TSet} {op : Operator} {tpos : Pos} (ho : PE X o to) (hi : PE X i ti) (hg : PGet X tget) (he : PE X e te) (hp : PIp X op tip) (hs : PSet X tset)
    (ha : ∀ ov iv new, augStore i ov iv new = (do holding [new, ov, iv] (setItem ov iv new); release [new, ov, iv] []; pure .next) := by intros; rfl) : PS X (.AugAssign (.Subscript o i tpos) op e pos) (tAugS to ti te tget tip tset) := by
  intro pins s σ H D I h
  refine wpAny_AugAssign_SubscriptAny (thn (ho pins s σ H _ I h) fun ov s1 ⟨x1, H1, I1, r1, q1⟩ => ?_) ha
  refine thn (hi pins s1 σ H1 _ I1 q1) fun iv s2 ⟨x2, H2, I2, r2, q2⟩ => ?_
  refine thn (hg pins s2 σ H2 x1 x2 ov iv _ I2 r1 r2 q2) fun old s3 ⟨x3, H3, I3, r3, q3⟩ => ?_
  refine thn (he pins s3 σ H3 _ I3 q3) fun v s4 ⟨x4, H4, I4, r4, q4⟩ => ?_
  refine thn (hp pins s4 σ H4 x3 x4 old v _ I4 r3 r4 q4) fun new s5 ⟨x5, H5, I5, r5, q5⟩ => ?_
  exact thn (hs pins s5 σ H5 x1 x2 x5 ov iv new _ I5 r1 r2 r5 q5) fun _ s6 ⟨H6, I6, q6⟩ => ⟨σ, H6, I6, q6⟩
def ipI (f : Int → Int → Int) : TIp := fun x y H Q => ∃ i j, x = .int i ∧ y = .int j ∧ Q (.int (f i j)) H
theorem ip_add : PIp X .Add (ipI fun i j => i + j) := by
  intro pins s σ H x y v u Q I r1 r2 h
  obtain ⟨i, j, e1, e2, q⟩ := h
  subst e1; subst e2
  obtain ⟨t, rfl⟩ := r1
  obtain ⟨t', rfl⟩ := r2
  exact iadd_int ⟨.int _, H, I.tok _, ⟨_, rfl⟩, q⟩
end
section
variable {X : Cx} {pos : Pos}
def tWhile (c : TT) (tb : TS) : TS := fun D σ H => ∃ W : Nat → St → Hp → Prop, (∃ m, W m σ H) ∧ ∀ m σ H, W m σ H →
  c σ H fun b H1 => if b = true then ∃ N : St → Hp → Prop, (∀ σ' H', N σ' H' → ∃ m', m' < m ∧ W m' σ' H') ∧ tb { D with nx := N, ct := N, bk := D.nx } σ H1 else D.nx σ H1
theorem ps_while {c : Expr} {body : List Stmt} {tc : TT} {tb : TS} (hp : PassesOwn (model X.prog X.w) X.A X.env X.xe) (hc : PT X c tc) (hb : PSs X body tb) : PS X (.While c body [] pos) (tWhile tc tb) := by
  intro pins s σ H D I h
  obtain ⟨W, ⟨m0, w0⟩, turn⟩ := h
  refine wpAny_While (codeAny_whileLoop (fun n s' => ∃ σ' H', Inv X pins σ' H' s' ∧ W n σ' H') ?_ m0 ⟨σ, H, I, w0⟩)
  rintro n s1 ⟨σ1, H1, I1, w1⟩
  refine wpAny_passesOwn hp (thn (hc pins s1 σ1 H1 _ I1 (turn n σ1 H1 w1)) fun b s2 ⟨H2, I2, q2⟩ => ?_)
  cases b with
  | true =>
    obtain ⟨N, hN, q2⟩ := q2
    rw [if_pos rfl]
    refine wpAny_passesOwn hp (thn (hb pins s2 σ1 H2 _ I2 q2) fun f s3 q3 => ?_)
    cases f with
    | next =>
      obtain ⟨σ3, H3, I3, n3⟩ := q3
      obtain ⟨m', hm, w3⟩ := hN σ3 H3 n3
      exact ⟨m', hm, σ3, H3, I3, w3⟩
    | cont =>
      obtain ⟨σ3, H3, I3, n3⟩ := q3
      obtain ⟨m', hm, w3⟩ := hN σ3 H3 n3
      exact ⟨m', hm, σ3, H3, I3, w3⟩
    | brk => exact q3
    | ret v => exact q3
  | false =>
    rw [if_neg Bool.false_ne_true]
    exact wpAny_execs_nil ⟨σ1, H2, I2, q2⟩
end
structure It where
  go : Nat → Hp → Prop
  yld : Nat → Hp → V → Hp → Prop
  stop : Nat → Hp → Prop
def FpOk (X : Cx) (pins : List (Addr × Obj)) (H : Hp) (b : Addr) : Prop :=
  H b = none ∧ b ≠ X.env.locals ∧ b ∉ X.fs ∧ (b ∈ X.ex ∨ X.s₀.heap.objs.size ≤ b) ∧ (∀ x c, X.env.cells.lookup x = some c → c ≠ b) ∧ ∀ p ∈ X.pn ++ pins, p.1 ≠ b
theorem Inv.fpOk {X : Cx} {pins : List (Addr × Obj)} {σ : St} {H H' : Hp} {s : Shared} {b : Addr} (I : Inv X pins σ H s) (hb : s.heap.objs.size ≤ b) (hn : H' b = none) : FpOk X pins H' b := by
  refine ⟨hn, Nat.ne_of_gt (Nat.lt_of_lt_of_le I.lt hb), I.nofs hb, .inr (Nat.le_trans I.sz hb), fun x c e z => ?_, fun p hp z => ?_⟩
  · obtain ⟨v, q⟩ := I.cell x c e
    exact absurd (Nat.lt_of_lt_of_le q.lt (by rw [z]; exact hb)) (Nat.lt_irrefl _)
  · exact absurd (Nat.lt_of_lt_of_le (Heap.lt_size (I.pin p hp).1) (by rw [z]; exact hb)) (Nat.lt_irrefl _)
structure Turn (P : Program) (w : World) (K : PySem.W.Frag) (tg : Expr) (J : It) (fp : List Addr) (it : Addr) (tn : Nat → Heap → Prop) : Prop where
  mem : it ∈ fp
  obj : ∀ i h, tn i h → ∀ b ∈ fp, ∃ o, h.get? b = some o ∧ ∀ v, o.data ≠ .cell v
  keep : ∀ i h h', tn i h → (∀ b ∈ fp, ∀ o, h.get? b = some o → h'.get? b = some o) → tn i h'
  item : ∀ (X : Cx), X.prog = P → X.w = w → X.K = K → X.calm = true → ∀ (i : Nat) (pins : List (Addr × Obj)) (s : Shared) (σ : St) (H : Hp) (E : Value → Shared → Prop), Inv X pins σ H s → (∀ b ∈ fp, FpOk X pins H b) → tn i s.heap → J.go i H →
    wpAny (model P w) X.A (pyNext (.ref it)) (fun r s1 => ∃ u, r = some u ∧
      wpAny (model P w) X.A (letOwnedTupleGo tg (.ref it) u) (fun _ s2 => ∃ x H', Inv X pins σ H' s2 ∧ RelV x u ∧ J.yld i H x H' ∧ tn (i + 1) s2.heap ∧ ∀ b ∈ fp, H' b = none) E s1) E s
  done : ∀ (X : Cx), X.prog = P → X.w = w → X.K = K → X.calm = true → ∀ (i : Nat) (pins : List (Addr × Obj)) (s : Shared) (σ : St) (H : Hp) (E : Value → Shared → Prop), Inv X pins σ H s → (∀ b ∈ fp, FpOk X pins H b) → tn i s.heap → J.stop i H →
    wpAny (model P w) X.A (pyNext (.ref it)) (fun r s1 => r = none ∧ Inv X pins σ H s1) E s
  self : ∀ (A : Around) (i : Nat) (s : Shared) (Q : Value → Shared → Prop) (E : Value → Shared → Prop), tn i s.heap → Q (.ref it) s → wpAny (model P w) A (pyIter (.ref it)) Q E s
abbrev TI := St → Hp → (It → Hp → Prop) → Prop
def PIE (X : Cx) (pins : List (Addr × Obj)) (σ : St) (tg : Expr) (R : It → Hp → Prop) (itv : Value) (s2 : Shared) : Prop :=
  ∃ (it : Addr) (fp : List Addr) (tn : Nat → Heap → Prop) (J : It) (H' : Hp), itv = .ref it ∧ Inv X pins σ H' s2 ∧ Turn X.prog X.w X.K tg J fp it tn ∧ tn 0 s2.heap ∧ (∀ b ∈ fp, FpOk X pins H' b) ∧ R J H'
def PI (X : Cx) (tg iter : Expr) (wi : TI) : Prop :=
  ∀ (pins : List (Addr × Obj)) (s : Shared) (σ : St) (H : Hp) (R : It → Hp → Prop), Inv X pins σ H s → wi σ H R →
    wpAny (model X.prog X.w) X.A (eval iter X.env) (fun v s1 => wpAny (model X.prog X.w) X.A (pyIter v) (PIE X pins σ tg R) X.xe s1) X.xe s
theorem go_of {M : Model} {A : Around} {E : Value → Shared → Prop} {s : Shared} {tg : Expr} {it : Addr} {u : Value} {o : Obj} {n : String} {vs : Array Value} {Q : Unit → Shared → Prop} (ho : s.heap.get? it = some o) (hc : o.cls = .type n) (hd : o.data = .fields vs)
    (hn : ["enumerate", "zip", "dict_itemiterator", "dict_reverseitemiterator", "odict_iterator", "itertools.zip_longest", "itertools.pairwise"].contains n = false) (hQ : Q () s) : wpAny M A (letOwnedTupleGo tg (.ref it) u) Q E s := by
  unfold letOwnedTupleGo
  cases tg <;> first
    | exact wpAny_pure hQ
    | (cases u <;> first
        | exact wpAny_pure hQ
        | (refine wpAny_bind (wpAny_load ho ?_)
           rw [hc, hd]
           show wpAny M A (if (["enumerate", "zip", "dict_itemiterator", "dict_reverseitemiterator", "odict_iterator", "itertools.zip_longest", "itertools.pairwise"].contains n && vs[0]? == some (rawInt _)) = true then _ else _) Q E s
           rw [if_neg (by intro h; rw [hn, Bool.false_and] at h; cases h)]
           exact wpAny_pure hQ))
def Itl (K : PySem.W.Frag) (a : Addr) : It :=
  ⟨fun i H => ∃ xs x, SqL K H a xs ∧ xs[i]? = some x, fun i H x H' => H' = H ∧ ∀ xs, SqL K H a xs → xs[i]? = some x, fun i H => ∃ xs, SqL K H a xs ∧ xs.length ≤ i⟩
def Itt (K : PySem.W.Frag) (a : Addr) : It :=
  ⟨fun i H => ∃ xs x, SqT K H a xs ∧ xs[i]? = some x, fun i H x H' => H' = H ∧ ∀ xs, SqT K H a xs → xs[i]? = some x, fun i H => ∃ xs, SqT K H a xs ∧ xs.length ≤ i⟩
def Itr (lo : Int) (n : Nat) : It := ⟨fun i _ => i < n, fun i H x H' => H' = H ∧ x = .int (lo + i), fun i _ => n ≤ i⟩
theorem turn_list {P : Program} {w : World} {K : PySem.W.Frag} {tg : Expr} (a it : Addr) : Turn P w K tg (Itl K a) [it] it (fun i h => h.IsListIter it a i) where
  mem := by simp
  obj := fun i h st b hb => by
    have e : b = it := by simpa using hb
    subst e
    obtain ⟨o, e, c, d⟩ := st
    exact ⟨o, e, fun v z => by rw [d] at z; cases z⟩
  keep := fun i h h' st k => st.at fun o e => k it (by simp) o e
  item := by
    intro X hP hw hK hc i pins s σ H E I hf st hg
    subst hP hw hK
    obtain ⟨xs, x, hq, hx⟩ := hg
    obtain ⟨its, rv, p, hz⟩ := I.list hq
    obtain ⟨u, hu, ru⟩ := rv.get hx
    obtain ⟨f0, f1, f2, f3, f4, f5⟩ := hf it (by simp)
    refine wpAny_pyNext_list_item st p.isList (x := u) (by simpa using hu) fun h' st' sb => ?_
    have I1 : Inv X pins σ H { s with heap := h' } := I.turned (t' := s.toks) (fun b o hb e => (sb.2 b hb).trans e) f0 f1 f3 f4 f5
    obtain ⟨o, e, c, d⟩ := id st'
    exact ⟨u, rfl, go_of (s := { s with heap := h' }) e c d (by decide) ⟨x, H, I1, ru, ⟨rfl, fun ys hy => by rw [I.list_inj hy hq]; exact hx⟩, st', fun b hb => (hf b hb).1⟩⟩
  done := by
    intro X hP hw hK hc i pins s σ H E I hf st hg
    subst hP hw hK
    obtain ⟨xs, hq, hx⟩ := hg
    obtain ⟨its, rv, p, hz⟩ := I.list hq
    obtain ⟨f0, f1, f2, f3, f4, f5⟩ := hf it (by simp)
    have hl := rv.length
    exact wpAny_pyNext_list_end (I.ok.hd hc) st p.isList (by simp; omega) fun h' eb => ⟨rfl, I.turned (t' := s.toks) (fun b o hb e => eb b o hb e) f0 f1 f3 f4 f5⟩
  self := fun _ _ _ _ _ st h => wpAny_pyIter_listiter st h
theorem turn_tuple {P : Program} {w : World} {K : PySem.W.Frag} {tg : Expr} (a it : Addr) : Turn P w K tg (Itt K a) [it] it (fun i h => h.IsTupleIter it a i) where
  mem := by simp
  obj := fun i h st b hb => by
    have e : b = it := by simpa using hb
    subst e
    obtain ⟨o, e, c, d⟩ := st
    exact ⟨o, e, fun v z => by rw [d] at z; cases z⟩
  keep := fun i h h' st k => st.at fun o e => k it (by simp) o e
  item := by
    intro X hP hw hK hc i pins s σ H E I hf st hg
    subst hP hw hK
    obtain ⟨xs, x, hq, hx⟩ := hg
    obtain ⟨its, rv, p, hz⟩ := I.tuple hq
    obtain ⟨u, hu, ru⟩ := rv.get hx
    obtain ⟨f0, f1, f2, f3, f4, f5⟩ := hf it (by simp)
    refine wpAny_pyNext_tuple_item st (show s.heap.IsTuple a its.toArray from p) (x := u) (by simpa using hu) fun h' st' sb => ?_
    have I1 : Inv X pins σ H { s with heap := h' } := I.turned (t' := s.toks) (fun b o hb e => (sb.2 b hb).trans e) f0 f1 f3 f4 f5
    obtain ⟨o, e, c, d⟩ := id st'
    exact ⟨u, rfl, go_of (s := { s with heap := h' }) e c d (by decide) ⟨x, H, I1, ru, ⟨rfl, fun ys hy => by rw [I.tuple_inj hy hq]; exact hx⟩, st', fun b hb => (hf b hb).1⟩⟩
  done := by
    intro X hP hw hK hc i pins s σ H E I hf st hg
    subst hP hw hK
    obtain ⟨xs, hq, hx⟩ := hg
    obtain ⟨its, rv, p, hz⟩ := I.tuple hq
    obtain ⟨f0, f1, f2, f3, f4, f5⟩ := hf it (by simp)
    have hl := rv.length
    exact wpAny_pyNext_tuple_end (I.ok.hd hc) st (show s.heap.IsTuple a its.toArray from p) (by simp; omega) fun h' eb => ⟨rfl, I.turned (t' := s.toks) (fun b o hb e => eb b o hb e) f0 f1 f3 f4 f5⟩
  self := fun _ _ _ _ _ st h => wpAny_pyIter_tupleiter st h
theorem turn_range {P : Program} {w : World} {K : PySem.W.Frag} {tg : Expr} (it : Addr) (lo : Int) (n : Nat) : Turn P w K tg (Itr lo n) [it] it (fun i h => IsRangeIter h it (lo + (i : Nat) * 1) ((n : Int) - (i : Nat)) 1) where
  mem := by simp
  obj := fun i h st b hb => by
    have e : b = it := by simpa using hb
    subst e
    exact ⟨_, st, fun v z => by
      have z' : Data.fields _ = Data.cell v := z
      cases z'⟩
  keep := fun i h h' st k => k it (by simp) _ st
  item := by
    intro X hP hw hK hc i pins s σ H E I hf st hg
    subst hP hw hK
    obtain ⟨f0, f1, f2, f3, f4, f5⟩ := hf it (by simp)
    have W := Walks.range (prog := X.prog) (w := X.w) (I.ok.hd hc) it lo 1 n
    refine W.item i s _ _ hg st fun v h' tk hv st' kk => ?_
    obtain ⟨t, rfl⟩ := hv
    have I1 : Inv X pins σ H { s with heap := h', toks := tk } := I.turned (fun b o hb e => kk b o (by simpa using hb) e) f0 f1 f3 f4 f5
    refine ⟨_, rfl, go_of (s := { s with heap := h', toks := tk }) (n := "range_iterator") st' rfl rfl (by decide) ⟨.int (lo + i), H, I1, ⟨t, ?_⟩, ⟨rfl, rfl⟩, st', fun b hb => (hf b hb).1⟩⟩
    rw [Int.mul_one]
  done := by
    intro X hP hw hK hc i pins s σ H E I hf st hg
    subst hP hw hK
    obtain ⟨f0, f1, f2, f3, f4, f5⟩ := hf it (by simp)
    exact wpAny_pyNext_range_end (I.ok.hd hc) st (by have : n ≤ i := hg; omega) fun h' eb => ⟨rfl, I.turned (t' := s.toks) (fun b o hb e => eb b o hb e) f0 f1 f3 f4 f5⟩
  self := fun _ _ _ _ _ st h => wpAny_pyIter_rangeiter st h
end L2

namespace L2
open PySem PySem.Spec PyProof.Rows
section
variable {X : Cx} {tg : Expr}
def iList (K : PySem.W.Frag) (tl : TE) : TI := fun σ H R => tl σ H fun x H1 => ∃ a, x = .ref a ∧ (∃ xs, SqL K H1 a xs) ∧ R (Itl K a) H1
def iTup (K : PySem.W.Frag) (tl : TE) : TI := fun σ H R => tl σ H fun x H1 => ∃ a, x = .ref a ∧ (∃ xs, SqT K H1 a xs) ∧ R (Itt K a) H1
theorem pi_list {l : Expr} {tl : TE} (hl : PE X l tl) : PI X tg l (iList X.K tl) := by
  intro pins s σ H R I h
  refine thn (hl pins s σ H _ I h) fun v s1 ⟨x, H1, I1, r1, q1⟩ => ?_
  obtain ⟨a, e, ⟨xs, hq⟩, q⟩ := q1
  subst e
  cases r1
  obtain ⟨its, rv, p, hz⟩ := I1.list hq
  refine wpAny_pyIter_list p.isList ?_
  refine ⟨s1.heap.objs.size, [s1.heap.objs.size], _, _, H1, rfl, I1.kept (t' := s1.toks) fun b o e => Heap.get?_push_of_some _ e, turn_list a _, ⟨_, Heap.get?_push_size _ rfl, rfl, rfl⟩, fun b hb => ?_, q⟩
  have e : b = s1.heap.objs.size := by simpa using hb
  subst e
  exact I1.fpOk (Nat.le_refl _) (I1.hok.fresh (Nat.le_refl _))
theorem pi_tup {l : Expr} {tl : TE} (hl : PE X l tl) : PI X tg l (iTup X.K tl) := by
  intro pins s σ H R I h
  refine thn (hl pins s σ H _ I h) fun v s1 ⟨x, H1, I1, r1, q1⟩ => ?_
  obtain ⟨a, e, ⟨xs, hq⟩, q⟩ := q1
  subst e
  cases r1
  obtain ⟨its, rv, p, hz⟩ := I1.tuple hq
  refine wpAny_pyIter_tuple (show s1.heap.IsTuple a its.toArray from p) ?_
  refine ⟨s1.heap.objs.size, [s1.heap.objs.size], _, _, H1, rfl, I1.kept (t' := s1.toks) fun b o e => Heap.get?_push_of_some _ e, turn_tuple a _, ⟨_, Heap.get?_push_size _ rfl, rfl, rfl⟩, fun b hb => ?_, q⟩
  have e : b = s1.heap.objs.size := by simpa using hb
  subst e
  exact I1.fpOk (Nat.le_refl _) (I1.hok.fresh (Nat.le_refl _))
theorem range_it {pins : List (Addr × Obj)} {σ : St} {H : Hp} {s : Shared} {R : It → Hp → Prop} {E : Value → Shared → Prop} {lo hi : Int} {t u v : Tok} {tk : Nat} (I : Inv X pins σ H s) (h1 : -(2 ^ 62) ≤ lo) (h2 : lo < 2 ^ 62) (h3 : -(2 ^ 62) ≤ hi) (h4 : hi < 2 ^ 62)
    (q : R (Itr lo (hi - lo).toNat) H) : wpAny (model X.prog X.w) X.A (pyIter (.ref s.heap.objs.size)) (PIE X pins σ tg R) E { s with heap := s.heap.push { cls := .type "range", data := .fields #[.int lo t, .int hi u, .int 1 v] }, toks := tk } := by
  refine wpAny_pyIter_range (IsRange.new ..) (small_one h1 h2 h3 h4) ?_
  have I1 : Inv X pins σ H { s with heap := s.heap.push { cls := .type "range", data := .fields #[.int lo t, .int hi u, .int 1 v] }, toks := tk } := I.kept fun b o e => Heap.get?_push_of_some _ e
  refine ⟨(s.heap.push { cls := .type "range", data := .fields #[.int lo t, .int hi u, .int 1 v] }).objs.size, [(s.heap.push { cls := .type "range", data := .fields #[.int lo t, .int hi u, .int 1 v] }).objs.size], _, _, H, rfl,
    I1.kept (t' := tk) fun b o e => Heap.get?_push_of_some _ e, turn_range _ lo (hi - lo).toNat, ?_, fun b hb => ?_, q⟩
  · have e1 : lo + ((0 : Nat) : Int) * 1 = lo := by simp
    have e2 : (((hi - lo).toNat : Nat) : Int) - ((0 : Nat) : Int) = Builtin.Range.rangeSize lo hi 1 := by rw [rangeSize_one]; split <;> omega
    show IsRangeIter _ _ (lo + ((0 : Nat) : Int) * 1) ((((hi - lo).toNat : Nat) : Int) - ((0 : Nat) : Int)) 1
    rw [e1, e2]
    exact Heap.get?_push_size _ rfl
  · have e : b = (s.heap.push { cls := .type "range", data := .fields #[.int lo t, .int hi u, .int 1 v] }).objs.size := by simpa using hb
    subst e
    exact I1.fpOk (Nat.le_refl _) (I1.hok.fresh (Nat.le_refl _))
def iRng1 (ta : TA) : TI := fun σ H R => ta σ H fun vs H1 => ∃ j : Int, vs = [.int j] ∧ -(2 ^ 62) ≤ j ∧ j < 2 ^ 62 ∧ R (Itr 0 j.toNat) H1
def iRng2 (ta : TA) : TI := fun σ H R => ta σ H fun vs H1 => ∃ i j : Int, vs = [.int i, .int j] ∧ (-(2 ^ 62) ≤ i ∧ i < 2 ^ 62 ∧ -(2 ^ 62) ≤ j ∧ j < 2 ^ 62) ∧ R (Itr i (j - i).toNat) H1
theorem pi_range1 {a : Expr} {ta : TA} {p pos : Pos} (hg : Gl X "range") (hm : X.mg "range" = none) (ha : PA X [a] ta) (hs : starEach [a] X.env = [(false, eval a X.env)] := by rfl) : PI X tg (.Call (.Name "range" p) [a] [] pos) (iRng1 ta) := by
  intro pins s σ H R I h
  refine Call_ (ld_blt I hg hm boot_range (PyProof.Rows.callWith_type1 (thn (ha pos pins s σ H _ I h) fun us s1 ⟨vs, H1, I1, r1, q1⟩ => ?_) hs rfl))
  obtain ⟨j, e, q1, q2, q⟩ := q1
  subst e
  cases r1 with
  | cons r rr =>
    cases rr
    obtain ⟨t, rfl⟩ := r
    exact call_range_1 (range_it I1 (by omega) (by omega) q1 q2 (by simpa using q))
theorem pi_range2 {a b : Expr} {ta : TA} {p pos : Pos} (hg : Gl X "range") (hm : X.mg "range" = none) (ha : PA X [a, b] ta) (hs : starEach [a, b] X.env = [(false, eval a X.env), (false, eval b X.env)] := by rfl) (hs2 : starEach [b] X.env = [(false, eval b X.env)] := by rfl) :
    PI X tg (.Call (.Name "range" p) [a, b] [] pos) (iRng2 ta) := by
  intro pins s σ H R I h
  refine Call_ (ld_blt I hg hm boot_range (PyProof.Rows.callWith_type1 (thn (ha pos pins s σ H _ I h) fun us s1 ⟨vs, H1, I1, r1, q1⟩ => ?_) (by rw [hs, hs2]) (by rw [hs2]; rfl)))
  obtain ⟨i, j, e, ⟨q1, q2, q3, q4⟩, q⟩ := q1
  subst e
  cases r1 with
  | cons r rr =>
    cases rr with
    | cons r' rr =>
      cases rr
      obtain ⟨t, rfl⟩ := r
      obtain ⟨t', rfl⟩ := r'
      exact call_range_2 (range_it I1 q1 q2 q3 q4 q)
def tFor (wi : TI) (g : TG) (tb : TS) : TS := fun D σ H => wi σ H fun J H1 => ∃ W : Nat → Nat → St → Hp → Prop, (∃ m, W 0 m σ H1) ∧ ∀ i m σ H, W i m σ H →
  (J.stop i H ∧ D.nx σ H) ∨ (J.go i H ∧ ∃ N : St → Hp → Prop, (∀ σ' H', N σ' H' → ∃ m', m' < m ∧ W (i + 1) m' σ' H') ∧ ∀ x H', J.yld i H x H' → g x σ H' fun σ2 H2 => tb { D with nx := N, ct := N, bk := D.nx } σ2 H2)
def pinsAt (fp : List Addr) (h : Heap) : List (Addr × Obj) := fp.filterMap fun b => (h.get? b).map fun o => (b, o)
theorem mem_pinsAt {fp : List Addr} {h : Heap} {b : Addr} {o : Obj} (hb : b ∈ fp) (e : h.get? b = some o) : (b, o) ∈ pinsAt fp h := List.mem_filterMap.mpr ⟨b, hb, by rw [e]; rfl⟩
theorem of_pinsAt {fp : List Addr} {h : Heap} {p : Addr × Obj} (hp : p ∈ pinsAt fp h) : p.1 ∈ fp ∧ h.get? p.1 = some p.2 := by
  obtain ⟨b, hb, e⟩ := List.mem_filterMap.mp hp
  cases q : h.get? b with
  | none => rw [q] at e; cases e
  | some o =>
    rw [q] at e
    have e' : (b, o) = p := Option.some.inj e
    subst e'
    exact ⟨hb, q⟩
theorem Inv.pinned {pins : List (Addr × Obj)} {σ : St} {H : Hp} {s : Shared} {fp : List Addr} (I : Inv X pins σ H s) (hf : ∀ b ∈ fp, FpOk X pins H b) (ho : ∀ b ∈ fp, ∃ o, s.heap.get? b = some o ∧ ∀ v, o.data ≠ .cell v) : Inv X (pins ++ pinsAt fp s.heap) σ H s :=
  I.pins_of fun p hp => (List.mem_append.mp hp).elim (fun z => I.pin p (List.mem_append_right _ z)) fun z => by
    obtain ⟨hb, e⟩ := of_pinsAt z
    obtain ⟨f0, f1, f2, _⟩ := hf p.1 hb
    obtain ⟨o, e', d⟩ := ho p.1 hb
    rw [e] at e'; cases e'
    exact ⟨e, f0, f1, f2, d⟩
theorem Inv.unpinned {pins pl : List (Addr × Obj)} {σ : St} {H : Hp} {s : Shared} (I : Inv X (pins ++ pl) σ H s) : Inv X pins σ H s := I.pins_of fun p hp => I.pin p (List.mem_append_right _ (List.mem_append_left _ hp))
theorem ps_for {iter : Expr} {body : List Stmt} {wi : TI} {g : TG} {tb : TS} {pos : Pos} (hp : PassesOwn (model X.prog X.w) X.A X.env X.xe) (hc : X.calm = true) (hi : PI X tg iter wi) (hg : PG X tg g) (hb : PSs X body tb)
    (hs : ∀ x, foldedSetIterable iter X.env x = pure x := by intro _; rfl) : PS X (.For tg iter body [] pos) (tFor wi g tb) := by
  intro pins s σ H D I h
  refine wpAny_For (thn (hi pins s σ H _ I h) fun v s1 h1 => thn h1 fun itv s2 h2 => ?_) hs
  obtain ⟨it, fp, tn, J, H2, e, I2, T, st2, f2, W, ⟨m0, w0⟩, turn⟩ := h2
  subst e
  have stat : ∀ {H' : Hp}, (∀ b ∈ fp, H' b = none) → ∀ b ∈ fp, FpOk X pins H' b := fun hn b hb => ⟨hn b hb, (f2 b hb).2⟩
  refine codeAny_forLoop_any (fun n s' => ∃ i σ' H', Inv X pins σ' H' s' ∧ tn i s'.heap ∧ (∀ b ∈ fp, H' b = none) ∧ W i n σ' H') ?_ m0 ⟨0, σ, H2, I2, st2, fun b hb => (f2 b hb).1, w0⟩
  rintro n s3 ⟨i, σ3, H3, I3, st3, fr3, w3⟩
  rcases turn i n σ3 H3 w3 with ⟨stop, qn⟩ | ⟨go, N, hN, step⟩
  · refine wpAny_passesOwn hp (thn (T.done X rfl rfl rfl hc i pins s3 σ3 H3 X.xe I3 (stat fr3) st3 stop) fun r s4 ⟨hr, I4⟩ => ?_)
    subst hr
    exact wpAny_execs_nil ⟨σ3, H3, I4, qn⟩
  · refine wpAny_passesOwn hp (thn (T.item X rfl rfl rfl hc i pins s3 σ3 H3 X.xe I3 (stat fr3) st3 go) fun r s4 ⟨u, hr, h4⟩ => ?_)
    subst hr
    refine wpAny_passesOwn hp (thn h4 fun _ s5 ⟨x, H5, I5, r5, y5, st5, fr5⟩ => ?_)
    have I5' := I5.pinned (stat fr5) (T.obj _ _ st5)
    refine wpAny_passesOwn hp (thn (hg _ s5 σ3 H5 x u _ I5' r5 (step x H5 y5)) fun _ s6 ⟨σ6, H6, I6, q6⟩ => ?_)
    refine wpAny_passesOwn hp (thn (hb _ s6 σ6 H6 _ I6 q6) fun f s7 q7 => ?_)
    have again : ∀ {σ7 : St} {H7 : Hp}, Inv X (pins ++ pinsAt fp s5.heap) σ7 H7 s7 → N σ7 H7 → ∃ m, m < n ∧ ∃ i σ' H', Inv X pins σ' H' s7 ∧ tn i s7.heap ∧ (∀ b ∈ fp, H' b = none) ∧ W i m σ' H' := fun {σ7 H7} I7 n7 => by
      obtain ⟨m', hm, w7⟩ := hN σ7 H7 n7
      refine ⟨m', hm, i + 1, σ7, H7, I7.unpinned, T.keep _ _ _ st5 fun b hb o e => (I7.pin (b, o) (List.mem_append_right _ (List.mem_append_right _ (mem_pinsAt hb e)))).1, fun b hb => ?_, w7⟩
      obtain ⟨o, e, d⟩ := T.obj _ _ st5 b hb
      exact (I7.pin (b, o) (List.mem_append_right _ (List.mem_append_right _ (mem_pinsAt hb e)))).2.1
    cases f with
    | next => obtain ⟨σ7, H7, I7, n7⟩ := q7; exact again I7 n7
    | cont => obtain ⟨σ7, H7, I7, n7⟩ := q7; exact again I7 n7
    | brk => obtain ⟨σ7, H7, I7, q7⟩ := q7; exact ⟨σ7, H7, I7.unpinned, q7⟩
    | ret v => obtain ⟨x7, σ7, H7, I7, r7, q7⟩ := q7; exact ⟨x7, σ7, H7, I7.unpinned, r7, q7⟩
end
theorem for_list {K : PySem.W.Frag} {a : Addr} {xs : List V} {g : TG} {tb : TS} {D : Ends} {σ : St} {H : Hp} (Pv : Nat → St → Hp → Prop) (h0 : Pv 0 σ H) (hl : ∀ i σ H, i ≤ xs.length → Pv i σ H → SqL K H a xs)
    (hs : ∀ i x σ H, xs[i]? = some x → Pv i σ H → g x σ H fun σ2 H2 => tb { D with nx := Pv (i + 1), ct := Pv (i + 1), bk := D.nx } σ2 H2) (hd : ∀ σ H, Pv xs.length σ H → D.nx σ H) :
    ∃ W : Nat → Nat → St → Hp → Prop, (∃ m, W 0 m σ H) ∧ ∀ i m σ H, W i m σ H →
      ((Itl K a).stop i H ∧ D.nx σ H) ∨ ((Itl K a).go i H ∧ ∃ N : St → Hp → Prop, (∀ σ' H', N σ' H' → ∃ m', m' < m ∧ W (i + 1) m' σ' H') ∧ ∀ x H', (Itl K a).yld i H x H' → g x σ H' fun σ2 H2 => tb { D with nx := N, ct := N, bk := D.nx } σ2 H2) := by
  refine ⟨fun i m σ H => m = xs.length - i ∧ i ≤ xs.length ∧ Pv i σ H, ⟨xs.length, by simp, Nat.zero_le _, h0⟩, ?_⟩
  rintro i m σ H ⟨rfl, hi, p⟩
  have q := hl i σ H hi p
  by_cases hlt : i < xs.length
  · refine .inr ⟨⟨xs, xs[i], q, by simp [hlt]⟩, Pv (i + 1), fun σ' H' p' => ⟨xs.length - (i + 1), by omega, rfl, hlt, p'⟩, fun x H' y => ?_⟩
    obtain ⟨e, y⟩ := y
    subst e
    exact hs i x σ _ (y xs q) p
  · have e : i = xs.length := by omega
    subst e
    exact .inl ⟨⟨xs, q, Nat.le_refl _⟩, hd σ H p⟩
theorem for_tup {K : PySem.W.Frag} {a : Addr} {xs : List V} {g : TG} {tb : TS} {D : Ends} {σ : St} {H : Hp} (Pv : Nat → St → Hp → Prop) (h0 : Pv 0 σ H) (hl : ∀ i σ H, i ≤ xs.length → Pv i σ H → SqT K H a xs)
    (hs : ∀ i x σ H, xs[i]? = some x → Pv i σ H → g x σ H fun σ2 H2 => tb { D with nx := Pv (i + 1), ct := Pv (i + 1), bk := D.nx } σ2 H2) (hd : ∀ σ H, Pv xs.length σ H → D.nx σ H) :
    ∃ W : Nat → Nat → St → Hp → Prop, (∃ m, W 0 m σ H) ∧ ∀ i m σ H, W i m σ H →
      ((Itt K a).stop i H ∧ D.nx σ H) ∨ ((Itt K a).go i H ∧ ∃ N : St → Hp → Prop, (∀ σ' H', N σ' H' → ∃ m', m' < m ∧ W (i + 1) m' σ' H') ∧ ∀ x H', (Itt K a).yld i H x H' → g x σ H' fun σ2 H2 => tb { D with nx := N, ct := N, bk := D.nx } σ2 H2) := by
  refine ⟨fun i m σ H => m = xs.length - i ∧ i ≤ xs.length ∧ Pv i σ H, ⟨xs.length, by simp, Nat.zero_le _, h0⟩, ?_⟩
  rintro i m σ H ⟨rfl, hi, p⟩
  have q := hl i σ H hi p
  by_cases hlt : i < xs.length
  · refine .inr ⟨⟨xs, xs[i], q, by simp [hlt]⟩, Pv (i + 1), fun σ' H' p' => ⟨xs.length - (i + 1), by omega, rfl, hlt, p'⟩, fun x H' y => ?_⟩
    obtain ⟨e, y⟩ := y
    subst e
    exact hs i x σ _ (y xs q) p
  · have e : i = xs.length := by omega
    subst e
    exact .inl ⟨⟨xs, q, Nat.le_refl _⟩, hd σ H p⟩
theorem for_range {lo : Int} {n : Nat} {g : TG} {tb : TS} {D : Ends} {σ : St} {H : Hp} (Pv : Nat → St → Hp → Prop) (h0 : Pv 0 σ H)
    (hs : ∀ i σ H, i < n → Pv i σ H → g (.int (lo + i)) σ H fun σ2 H2 => tb { D with nx := Pv (i + 1), ct := Pv (i + 1), bk := D.nx } σ2 H2) (hd : ∀ σ H, Pv n σ H → D.nx σ H) :
    ∃ W : Nat → Nat → St → Hp → Prop, (∃ m, W 0 m σ H) ∧ ∀ i m σ H, W i m σ H →
      ((Itr lo n).stop i H ∧ D.nx σ H) ∨ ((Itr lo n).go i H ∧ ∃ N : St → Hp → Prop, (∀ σ' H', N σ' H' → ∃ m', m' < m ∧ W (i + 1) m' σ' H') ∧ ∀ x H', (Itr lo n).yld i H x H' → g x σ H' fun σ2 H2 => tb { D with nx := N, ct := N, bk := D.nx } σ2 H2) := by
  refine ⟨fun i m σ H => m = n - i ∧ i ≤ n ∧ Pv i σ H, ⟨n, by simp, Nat.zero_le _, h0⟩, ?_⟩
  rintro i m σ H ⟨rfl, hi, p⟩
  by_cases hlt : i < n
  · refine .inr ⟨hlt, Pv (i + 1), fun σ' H' p' => ⟨n - (i + 1), by omega, rfl, hlt, p'⟩, fun x H' y => ?_⟩
    obtain ⟨e, y⟩ := y
    subst e y
    exact hs i σ _ hlt p
  · have e : i = n := by omega
    subst e
    exact .inl ⟨Nat.le_refl _, hd σ H p⟩
end L2

namespace L2
open PySem PySem.Spec PyProof.Rows

abbrev R2 := V → V → Hp → VK → Prop
def OpR (X : Cx) (f : Value → Value → Sem Value) (r : R2) : Prop :=
  ∀ (pins : List (Addr × Obj)) (s : Shared) (σ : St) (H : Hp) (x y : V) (v u : Value) (Q : VK), Inv X pins σ H s → RelV x v → RelV y u → r x y H Q →
    wpAny (model X.prog X.w) X.A (f v u) (EP X pins σ Q) X.xe s
def UnR (X : Cx) (f : Value → Sem Value) (r : V → Hp → VK → Prop) : Prop :=
  ∀ (pins : List (Addr × Obj)) (s : Shared) (σ : St) (H : Hp) (x : V) (v : Value) (Q : VK), Inv X pins σ H s → RelV x v → r x H Q →
    wpAny (model X.prog X.w) X.A (f v) (EP X pins σ Q) X.xe s
def CallR (X : Cx) (f : Value) (r : List V → Hp → VK → Prop) : Prop :=
  ∀ (pins : List (Addr × Obj)) (s : Shared) (σ : St) (H : Hp) (xs : List V) (us : List Value) (Q : VK), Inv X pins σ H s → Vals xs us → r xs H Q →
    wpAny (model X.prog X.w) X.A (call f us) (EP X pins σ Q) X.xe s
def TruR (X : Cx) (r : V → Hp → (Bool → Hp → Prop) → Prop) : Prop :=
  ∀ (pins : List (Addr × Obj)) (s : Shared) (σ : St) (H : Hp) (x : V) (v : Value) (Q : Bool → Hp → Prop), Inv X pins σ H s → RelV x v → r x H Q →
    wpAny (model X.prog X.w) X.A (truthy v) (TP X pins σ Q) X.xe s

def tOp (r : R2) (ta tb : TE) : TE := fun σ H Q => ta σ H fun x H1 => tb σ H1 fun y H2 => r x y H2 Q
def tUn (r : V → Hp → VK → Prop) (ta : TE) : TE := fun σ H Q => ta σ H fun x H1 => r x H1 Q
def rI (C : Int → Int → Prop) (g : Int → Int → V) : R2 := fun x y H Q => ∃ i j, x = .int i ∧ y = .int j ∧ C i j ∧ Q (g i j) H
def rI0 (g : Int → Int → V) : R2 := fun x y H Q => ∃ i j, x = .int i ∧ y = .int j ∧ Q (g i j) H
def rU (g : Int → V) : V → Hp → VK → Prop := fun x H Q => ∃ i, x = .int i ∧ Q (g i) H

section
variable {X : Cx} {a b c : Expr} {ta tb tc : TE} {pos : Pos}

theorem binT (ha : PE X a ta) (hb : PE X b tb) {pins : List (Addr × Obj)} {s : Shared} {σ : St} {H : Hp} {R : V → V → Hp → Prop} (I : Inv X pins σ H s)
    (h : ta σ H fun x H1 => tb σ H1 fun y H2 => R x y H2) {Q : Value → Shared → Prop} {f : Value → Value → Sem Value}
    (hf : ∀ v u s2 x y H2, Inv X pins σ H2 s2 → RelV x v → RelV y u → R x y H2 → wpAny (model X.prog X.w) X.A (f v u) Q X.xe s2) :
    wpAny (model X.prog X.w) X.A (eval a X.env) (fun v s₁ => wpAny (model X.prog X.w) X.A (eval b X.env) (fun u s₂ => wpAny (model X.prog X.w) X.A (f v u) Q X.xe s₂) X.xe s₁) X.xe s := by
  refine thn (ha pins s σ H _ I h) fun v s1 ⟨x, H1, I1, r1, q1⟩ => ?_
  refine thn (hb pins s1 σ H1 _ I1 q1) fun u s2 ⟨y, H2, I2, r2, q2⟩ => ?_
  exact hf v u s2 x y H2 I2 r1 r2 q2

theorem pe_op {op : Operator} {r : R2} (ho : OpR X (binaryOp op) r) (ha : PE X a ta) (hb : PE X b tb) : PE X (.BinOp a op b pos) (tOp r ta tb) := by
  intro pins s σ H Q I h
  exact wpAny_BinOp (binT ha hb I h fun v u s2 x y H2 I2 rx ry q => ho pins s2 σ H2 x y v u Q I2 rx ry q)
theorem pe_un {op : UnaryOp} {r : V → Hp → VK → Prop} (ho : UnR X (unaryOp op) r) (ha : PE X a ta) : PE X (.UnaryOp op a pos) (tUn r ta) := by
  intro pins s σ H Q I h
  exact UnaryOp_ (thn (ha pins s σ H _ I h) fun v s1 ⟨x, H1, I1, r1, q1⟩ => ho pins s1 σ H1 x v Q I1 r1 q1)
theorem opI {f : Value → Value → Sem Value} {C : Int → Int → Prop} {g : Int → Int → Int}
    (rule : ∀ (i j : Int) (t u : Tok) (s : Shared) (Q : Value → Shared → Prop) (E : Value → Shared → Prop), C i j → Q (.int (g i j) s.toks) { s with toks := s.toks + 1 } → wpAny (model X.prog X.w) X.A (f (.int i t) (.int j u)) Q E s) :
    OpR X f (rI C fun i j => .int (g i j)) := by
  intro pins s σ H x y v u Q I rx ry h
  obtain ⟨i, j, rfl, rfl, hc, q⟩ := h
  obtain ⟨t, rfl⟩ := rx
  obtain ⟨t', rfl⟩ := ry
  exact rule i j t t' s _ _ hc ⟨.int (g i j), H, I.tok _, ⟨_, rfl⟩, q⟩
theorem opI0 {f : Value → Value → Sem Value} {g : Int → Int → Int}
    (rule : ∀ (i j : Int) (t u : Tok) (s : Shared) (Q : Value → Shared → Prop) (E : Value → Shared → Prop), Q (.int (g i j) s.toks) { s with toks := s.toks + 1 } → wpAny (model X.prog X.w) X.A (f (.int i t) (.int j u)) Q E s) :
    OpR X f (rI0 fun i j => .int (g i j)) := by
  intro pins s σ H x y v u Q I rx ry h
  obtain ⟨i, j, rfl, rfl, q⟩ := h
  obtain ⟨t, rfl⟩ := rx
  obtain ⟨t', rfl⟩ := ry
  exact rule i j t t' s _ _ ⟨.int (g i j), H, I.tok _, ⟨_, rfl⟩, q⟩
theorem opB0 {f : Value → Value → Sem Value} {g : Int → Int → Bool}
    (rule : ∀ (i j : Int) (t u : Tok) (s : Shared) (Q : Value → Shared → Prop) (E : Value → Shared → Prop), Q (.bool (g i j)) s → wpAny (model X.prog X.w) X.A (f (.int i t) (.int j u)) Q E s) :
    OpR X f (rI0 fun i j => .bl (g i j)) := by
  intro pins s σ H x y v u Q I rx ry h
  obtain ⟨i, j, rfl, rfl, q⟩ := h
  obtain ⟨t, rfl⟩ := rx
  obtain ⟨t', rfl⟩ := ry
  exact rule i j t t' s _ _ ⟨.bl (g i j), H, I, rfl, q⟩

def CDiv (i j : Int) : Prop := 0 < j ∧ j < 1073741824
def CPow (i j : Int) : Prop := 0 ≤ j ∧ j ≤ 1000000 ∧ i.natAbs < 2 ^ 64
def CMul (i j : Int) : Prop := (-(2 ^ 64) < i ∧ i < 2 ^ 64) ∨ (-(2 ^ 64) < j ∧ j < 2 ^ 64)
theorem CMul.ok {i j : Int} (h : CMul i j) : IntMulOk i j := by
  rcases h with ⟨h1, h2⟩ | ⟨h1, h2⟩
  · exact .of_left (intBits_le_64 h1 h2)
  · exact .of_right (intBits_le_64 h1 h2)
theorem op_add : OpR X (binaryOp .Add) (rI0 fun i j => .int (i + j)) := opI0 fun _ _ _ _ _ _ _ q => add_int q
theorem op_sub : OpR X (binaryOp .Sub) (rI0 fun i j => .int (i - j)) := opI0 fun _ _ _ _ _ _ _ q => sub_int q
theorem op_mul : OpR X (binaryOp .Mult) (rI CMul fun i j => .int (i * j)) := opI fun _ _ _ _ _ _ _ hc q => mul_int q hc.ok
theorem op_fdiv : OpR X (binaryOp .FloorDiv) (rI CDiv fun i j => .int (i / j)) := opI fun i j _ _ _ _ _ hc q => by
  have h1 : (0 : Int) < j := hc.1
  have h2 : j < 1073741824 := hc.2
  exact floordiv_int (by omega) (by rw [Int.fdiv_eq_ediv_of_nonneg i (by omega)]; exact q) (.inl (PyProof.noPylong_small (by omega)))
theorem op_mod : OpR X (binaryOp .Mod) (rI (fun _ j => 0 < j) fun i j => .int (i % j)) := opI fun i j _ _ _ _ _ hc q => by
  have h1 : (0 : Int) < j := hc
  exact mod_int' (by omega) (by rw [Int.fmod_eq_emod_of_nonneg i (by omega)]; exact q)
theorem op_pow : OpR X (binaryOp .Pow) (rI CPow fun i j => .int (i ^ j.toNat)) := opI fun _ _ _ _ _ _ _ hc q => pow_int_small hc.1 hc.2.1 hc.2.2 q
theorem unI {f : Value → Sem Value} {g : Int → Int}
    (rule : ∀ (i : Int) (t : Tok) (s : Shared) (Q : Value → Shared → Prop) (E : Value → Shared → Prop), Q (.int (g i) s.toks) { s with toks := s.toks + 1 } → wpAny (model X.prog X.w) X.A (f (.int i t)) Q E s) :
    UnR X f (rU fun i => .int (g i)) := by
  intro pins s σ H x v Q I rx h
  obtain ⟨i, rfl, q⟩ := h
  obtain ⟨t, rfl⟩ := rx
  exact rule i t s _ _ ⟨.int (g i), H, I.tok _, ⟨_, rfl⟩, q⟩
theorem un_neg : UnR X (unaryOp .USub) (rU fun i => .int (-i)) := unI fun _ _ _ _ _ q => neg_int q
end
def scal : V → V → Bool
  | .non, .non => true | .non, .int _ => true | .int _, .non => true | .non, .bl _ => true | .bl _, .non => true | .non, .str _ => true | .str _, .non => true
  | .int _, .int _ => true | .bl _, .bl _ => true | .str _, .str _ => true | .byt _, .byt _ => true
  | .int _, .str _ => true | .str _, .int _ => true | .bl _, .str _ => true | .str _, .bl _ => true
  | _, _ => false
def rEq : R2 := fun x y H Q => scal x y = true ∧ Q (.bl (decide (x = y))) H
def rNe : R2 := fun x y H Q => scal x y = true ∧ Q (.bl (!decide (x = y))) H

theorem dec_int {i j : Int} : decide (V.int i = V.int j) = (i == j) := by
  rw [Bool.eq_iff_iff]
  simp
theorem dec_bl {i j : Bool} : decide (V.bl i = V.bl j) = (i == j) := by
  rw [Bool.eq_iff_iff]
  simp
theorem dec_str {i j : Str} : decide (V.str i = V.str j) = (i == j) := by
  rw [Bool.eq_iff_iff]
  simp
theorem dec_byt {i j : Array UInt8} : decide (V.byt i = V.byt j) = (i.toList == j.toList) := by
  rw [Bool.eq_iff_iff]
  cases i
  cases j
  simp

section
variable {X : Cx} {a b c : Expr} {ta tb tc : TE} {pos : Pos}
theorem fin_bl {pins : List (Addr × Obj)} {σ : St} {H : Hp} {s : Shared} {Q : VK} {k k' : Bool} (I : Inv X pins σ H s) (q : Q (.bl k) H) (e : k = k') : EP X pins σ Q (.bool k') s := by
  subst e
  exact ⟨.bl k, H, I, rfl, q⟩
theorem op_eq : OpR X (compareOp .Eq) rEq := by
  intro pins s σ H x y v u Q I rx ry h
  obtain ⟨hs, q⟩ := h
  cases x with
  | non =>
    cases rx
    cases y with
    | non => cases ry; exact PySem.EqNone.eq_none_none (fin_bl I q (by simp))
    | bl j => cases ry; exact PySem.EqNone.eq_none_bool (fin_bl I q (by simp))
    | int j => obtain ⟨t', rfl⟩ := ry; exact PySem.EqNone.eq_none_int (fin_bl I q (by simp))
    | str j => obtain ⟨t', rfl⟩ := ry; exact PySem.EqNone.eq_none_str (fin_bl I q (by simp))
    | _ => exact absurd (show false = true from hs) Bool.false_ne_true
  | bl i =>
    cases rx
    cases y with
    | non => cases ry; exact PySem.EqNone.eq_bool_none (fin_bl I q (by simp))
    | bl j => cases ry; exact eq_bool (fin_bl I q dec_bl)
    | str j => obtain ⟨t', rfl⟩ := ry; exact PySem.EqMixed.eq_bool_str (fin_bl I q (by simp))
    | _ => exact absurd (show false = true from hs) Bool.false_ne_true
  | int i =>
    obtain ⟨t, rfl⟩ := rx
    cases y with
    | non => cases ry; exact PySem.EqNone.eq_int_none (fin_bl I q (by simp))
    | int j => obtain ⟨t', rfl⟩ := ry; exact eq_int (fin_bl I q dec_int)
    | str j => obtain ⟨t', rfl⟩ := ry; exact PySem.EqMixed.eq_int_str (fin_bl I q (by simp))
    | _ => exact absurd (show false = true from hs) Bool.false_ne_true
  | str i =>
    obtain ⟨t, rfl⟩ := rx
    cases y with
    | non => cases ry; exact PySem.EqNone.eq_str_none (fin_bl I q (by simp))
    | bl j => cases ry; exact PySem.EqMixed.eq_str_bool (fin_bl I q (by simp))
    | int j => obtain ⟨t', rfl⟩ := ry; exact PySem.EqMixed.eq_str_int (fin_bl I q (by simp))
    | str j => obtain ⟨t', rfl⟩ := ry; exact eq_str (fin_bl I q dec_str)
    | _ => exact absurd (show false = true from hs) Bool.false_ne_true
  | byt i =>
    obtain ⟨t, rfl⟩ := rx
    cases y with
    | byt j => obtain ⟨t', rfl⟩ := ry; exact PySem.W.eq_bytes (fin_bl I q dec_byt)
    | _ => exact absurd (show false = true from hs) Bool.false_ne_true
  | _ => cases y <;> exact absurd (show false = true from hs) Bool.false_ne_true
theorem op_ne : OpR X (compareOp .NotEq) rNe := by
  intro pins s σ H x y v u Q I rx ry h
  obtain ⟨hs, q⟩ := h
  cases x with
  | non =>
    cases rx
    cases y with
    | non => cases ry; exact PySem.EqNone.ne_none_none (fin_bl I q (by simp))
    | bl j => cases ry; exact PySem.EqNone.ne_none_bool (fin_bl I q (by simp))
    | int j => obtain ⟨t', rfl⟩ := ry; exact PySem.EqNone.ne_none_int (fin_bl I q (by simp))
    | str j => obtain ⟨t', rfl⟩ := ry; exact PySem.EqNone.ne_none_str (fin_bl I q (by simp))
    | _ => exact absurd (show false = true from hs) Bool.false_ne_true
  | bl i =>
    cases rx
    cases y with
    | non => cases ry; exact PySem.EqNone.ne_bool_none (fin_bl I q (by simp))
    | bl j => cases ry; exact ne_bool (fin_bl I q (congrArg not dec_bl))
    | str j => obtain ⟨t', rfl⟩ := ry; exact PySem.EqMixed.ne_bool_str (fin_bl I q (by simp))
    | _ => exact absurd (show false = true from hs) Bool.false_ne_true
  | int i =>
    obtain ⟨t, rfl⟩ := rx
    cases y with
    | non => cases ry; exact PySem.EqNone.ne_int_none (fin_bl I q (by simp))
    | int j => obtain ⟨t', rfl⟩ := ry; exact ne_int (fin_bl I q (congrArg not dec_int))
    | str j => obtain ⟨t', rfl⟩ := ry; exact PySem.EqMixed.ne_int_str (fin_bl I q (by simp))
    | _ => exact absurd (show false = true from hs) Bool.false_ne_true
  | str i =>
    obtain ⟨t, rfl⟩ := rx
    cases y with
    | non => cases ry; exact PySem.EqNone.ne_str_none (fin_bl I q (by simp))
    | bl j => cases ry; exact PySem.EqMixed.ne_str_bool (fin_bl I q (by simp))
    | int j => obtain ⟨t', rfl⟩ := ry; exact PySem.EqMixed.ne_str_int (fin_bl I q (by simp))
    | str j => obtain ⟨t', rfl⟩ := ry; exact ne_str (fin_bl I q (congrArg not dec_str))
    | _ => exact absurd (show false = true from hs) Bool.false_ne_true
  | byt i =>
    obtain ⟨t, rfl⟩ := rx
    cases y with
    | byt j => obtain ⟨t', rfl⟩ := ry; exact PySem.W.ne_bytes (fin_bl I q (congrArg not dec_byt))
    | _ => exact absurd (show false = true from hs) Bool.false_ne_true
  | _ => cases y <;> exact absurd (show false = true from hs) Bool.false_ne_true

theorem op_lt : OpR X (compareOp .Lt) (rI0 fun i j => .bl (decide (i < j))) := opB0 fun _ _ _ _ _ _ _ q => lt_int q
theorem op_le : OpR X (compareOp .LtE) (rI0 fun i j => .bl (decide (i ≤ j))) := opB0 fun _ _ _ _ _ _ _ q => le_int q
theorem op_gt : OpR X (compareOp .Gt) (rI0 fun i j => .bl (decide (j < i))) := opB0 fun _ _ _ _ _ _ _ q => gt_int q
theorem op_ge : OpR X (compareOp .GtE) (rI0 fun i j => .bl (decide (j ≤ i))) := opB0 fun _ _ _ _ _ _ _ q => ge_int q
theorem op_isN : OpR X (compareOp .Is) (fun x y H Q => y = .non ∧ Q (.bl (decide (x = .non))) H) := by
  intro pins s σ H x y v u Q I rx ry h
  obtain ⟨rfl, q⟩ := h
  cases ry
  refine is_none_gen (fin_bl I q ?_)
  cases x <;> first
    | (cases rx; rfl)
    | (obtain ⟨t, rfl⟩ := rx; rfl)
theorem nomark (b : Expr) {op : CmpOp} (h : op ≠ .In := by decide) (h2 : op ≠ .NotIn := by decide) : behindInMarks op b = false := by
  have e1 : (op == CmpOp.In) = false := by cases op <;> first | rfl | exact absurd rfl h
  have e2 : (op == CmpOp.NotIn) = false := by cases op <;> first | rfl | exact absurd rfl h2
  cases b <;> simp [behindInMarks, e1, e2]
theorem pe_cmpR {op : CmpOp} {r : R2} (ho : OpR X (compareOp op) r) (ha : PE X a ta) (hb : PE X b tb) (hm : behindInMarks op b = false) : PE X (.Compare a [op] [b] pos) (tOp r ta tb) := by
  intro pins s σ H Q I h
  exact wpAny_Compare1 (binT ha hb I h fun v u s2 x y H2 I2 rx ry q => ho pins s2 σ H2 x y v u Q I2 rx ry q) hm
def tTest (t : TE) : TT := fun σ H Q => t σ H fun x H' => ∃ k, x = .bl k ∧ Q k H'
theorem pt_cmpR {op : CmpOp} {r : R2} (ho : OpR X (compareOp op) r) (ha : PE X a ta) (hb : PE X b tb) (hm : behindInMarks op b = false) : PT X (.Compare a [op] [b] pos) (tTest (tOp r ta tb)) := by
  intro pins s σ H Q I h
  refine wpAny_isTrue_Compare1 (thn (ha pins s σ H _ I h) fun v s1 ⟨x, H1, I1, r1, q1⟩ => thn (hb pins s1 σ H1 _ I1 q1) fun u s2 ⟨y, H2, I2, r2, q2⟩ =>
    thn (ho pins s2 σ H2 x y v u _ I2 r1 r2 q2) fun c s3 ⟨z, H3, I3, r3, k, e, q3⟩ => ?_) hm
  subst e
  cases r3
  exact wpAny_truthy_bool ⟨H3, I3, q3⟩
def tChain (r r' : R2) (ta tb tc : TE) : TE := fun σ H Q => ta σ H fun x H1 => tb σ H1 fun y H2 => r x y H2 fun z H3 => ∃ k, z = .bl k ∧
  (if k = true then tc σ H3 fun w' H4 => r' y w' H4 Q else Q (.bl false) H3)
theorem pe_chain {op op' : CmpOp} {r r' : R2} (ho : OpR X (compareOp op) r) (ho' : OpR X (compareOp op') r') (ha : PE X a ta) (hb : PE X b tb) (hc : PE X c tc)
    (hm : lastMarks [op, op'] [b, c] = false := by with_unfolding_all rfl) : PE X (.Compare a [op, op'] [b, c] pos) (tChain r r' ta tb tc) := by
  intro pins s σ H Q I h
  refine Compare_chain (thn (ha pins s σ H _ I h) fun v s1 ⟨x, H1, I1, r1, q1⟩ => chain_link (thn (hb pins s1 σ H1 _ I1 q1) fun u s2 ⟨y, H2, I2, r2, q2⟩ =>
    thn (ho pins s2 σ H2 x y v u _ I2 r1 r2 q2) fun d s3 ⟨z, H3, I3, r3, k, e, q3⟩ => ?_)) hm
  subst e
  cases r3
  refine wpAny_truthy_bool ?_
  cases k with
  | false => exact ite_ff ⟨.bl false, H3, I3, rfl, q3⟩
  | true => exact ite_tt (chain_last (thn (hc pins s3 σ H3 _ I3 q3) fun w' s4 ⟨z', H4, I4, r4, q4⟩ => ho' pins s4 σ H4 y z' u w' Q I4 r2 r4 q4))
def TruV (K : PySem.W.Frag) (x : V) (H : Hp) (k : Bool) : Prop :=
  match x with
  | .non => k = false
  | .bl b => k = b
  | .int i => k = (i != 0)
  | .str y => y.length ≤ sizeLine ∧ k = ((y.length : Int) != 0)
  | .byt y => y.size ≤ sizeLine ∧ k = ((y.size : Int) != 0)
  | .ref p => (∃ xs, SqL K H p xs ∧ k = !xs.isEmpty) ∨ (∃ xs, SqT K H p xs ∧ k = !xs.isEmpty) ∨ ∃ kvs, H p = some (.dK kvs) ∧ k = !kvs.isEmpty
  | _ => False
theorem isEmpty_kv {κ : Type} {kvs : List (κ × V)} {vs : List (κ × Value)} (r : KV kvs vs) : (!vs.isEmpty) = !kvs.isEmpty := by
  cases r <;> rfl
theorem isEmpty_of {xs : List V} {its : List Value} (r : Vals xs its) : (!its.toArray.isEmpty) = !xs.isEmpty := by
  cases r <;> simp
theorem line63 : (sizeLine : Nat) < 2 ^ 63 := by rw [sizeLine_eq]; decide
theorem tru_ok : TruR X (fun x H Q => ∃ k, TruV X.K x H k ∧ Q k H) := by
  intro pins s σ H x v Q I rx h
  obtain ⟨k, e, q⟩ := h
  have hl := line63
  have hs : sizeLine = 16777216 := sizeLine_eq
  cases x with
  | non =>
    cases rx
    have e' : k = false := e
    subst e'
    exact truthy_none ⟨H, I, q⟩
  | bl b =>
    cases rx
    have e' : k = b := e
    subst e'
    exact wpAny_truthy_bool ⟨H, I, q⟩
  | int i =>
    obtain ⟨t, rfl⟩ := rx
    have e' : k = (i != 0) := e
    subst e'
    exact PySem.P.truthy_int ⟨H, I, q⟩
  | str y =>
    obtain ⟨t, rfl⟩ := rx
    obtain ⟨hy, e'⟩ : y.length ≤ sizeLine ∧ k = ((y.length : Int) != 0) := e
    subst e'
    exact PySem.P.truthy_str (by omega) ⟨H, I.tok _, q⟩
  | byt y =>
    obtain ⟨t, rfl⟩ := rx
    obtain ⟨hy, e'⟩ : y.size ≤ sizeLine ∧ k = ((y.size : Int) != 0) := e
    subst e'
    exact PySem.W.truthy_bytes (by omega) ⟨H, I.tok _, q⟩
  | ref p =>
    cases rx
    have e' : (∃ xs, SqL X.K H p xs ∧ k = !xs.isEmpty) ∨ (∃ xs, SqT X.K H p xs ∧ k = !xs.isEmpty) ∨ ∃ kvs, H p = some (.dK kvs) ∧ k = !kvs.isEmpty := e
    rcases e' with ⟨xs, hx, e'⟩ | ⟨xs, hx, e'⟩ | ⟨kvs, hx, e'⟩
    · subst e'
      obtain ⟨its, r, pl, hz⟩ := I.list hx
      have hlen := r.length
      exact wpAny_truthy_list pl.isList (by simp only [List.size_toArray]; omega) ⟨H, I.tok _, by rw [isEmpty_of r]; exact q⟩
    · subst e'
      obtain ⟨its, r, pl, hz⟩ := I.tuple hx
      have hlen := r.length
      exact truthy_tuple pl (by simp only [List.size_toArray]; omega) ⟨H, I.tok _, by rw [isEmpty_of r]; exact q⟩
    · subst e'
      obtain ⟨hz, hS, vs, r, m⟩ : kvs.length ≤ sizeLine ∧ (p == sysModules) = false ∧ ∃ vs, KV kvs vs ∧ s.heap.DictOf (mixKind X.prog X.w) p vs := I.hok p _ hx
      have hlen : kvs.length = vs.length := Paired.length r
      exact wpAny_truthy_dict hS m (by omega) ⟨H, I.tok _, by rw [isEmpty_kv r]; exact q⟩
  | _ => exact (show False from e).elim
theorem pt_truth (ha : PE X a ta) (he : ∀ whole, isTrue a X.env whole = (do let v ← whole; standAt a.pos; holding [v] (truthy v))) :
    PT X a (fun σ H Q => ta σ H fun x H' => ∃ k, TruV X.K x H' k ∧ Q k H') := by
  intro pins s σ H Q I h
  exact isTrue_plain (thn (ha pins s σ H _ I h) fun v s1 ⟨x, H1, I1, r1, q1⟩ => tru_ok pins s1 σ H1 x v Q I1 r1 q1) (he _)
theorem op_add_str : OpR X (binaryOp .Add) (fun x y H Q => ∃ i j, x = .str i ∧ y = .str j ∧ i.length + j.length ≤ sizeLine ∧ Q (.str (i ++ j)) H) := by
  intro pins s σ H x y v u Q I rx ry h
  obtain ⟨i, j, rfl, rfl, hz, q⟩ := h
  obtain ⟨t, rfl⟩ := rx
  obtain ⟨t', rfl⟩ := ry
  exact add_str (fun t' tk => ⟨.str (i ++ j), H, I.tok _, ⟨_, rfl⟩, q⟩) hz
theorem vals1 {x : V} {us : List Value} (r : Vals [x] us) : ∃ u, us = [u] ∧ RelV x u := by
  cases r with
  | cons r1 r2 => cases r2; exact ⟨_, rfl, r1⟩
theorem vals2 {x y : V} {us : List Value} (r : Vals [x, y] us) : ∃ u w', us = [u, w'] ∧ RelV x u ∧ RelV y w' := by
  cases r with
  | cons r1 r2 =>
    cases r2 with
    | cons r3 r4 => cases r4; exact ⟨_, _, rfl, r1, r3⟩
theorem call_abs : CallR X (.builtin "abs") (fun xs H Q => ∃ i, xs = [.int i] ∧ Q (.int (if i < 0 then -i else i)) H) := by
  intro pins s σ H xs us Q I r h
  obtain ⟨i, rfl, q⟩ := h
  obtain ⟨u, rfl, t, rfl⟩ := vals1 r
  exact call_abs_int fun u tk => ⟨.int (if i < 0 then -i else i), H, I.tok _, ⟨_, rfl⟩, q⟩
theorem call_max2 (hc : X.calm = true) : CallR X (.builtin "max") (fun xs H Q => ∃ i j, xs = [.int i, .int j] ∧ Q (.int (if j > i then j else i)) H) := by
  intro pins s σ H xs us Q I r h
  obtain ⟨i, j, rfl, q⟩ := h
  obtain ⟨u, w', rfl, ⟨t, rfl⟩, ⟨t', rfl⟩⟩ := vals2 r
  refine max_two_ints (I.ok.hd hc) fun h' tk k => ⟨_, H, I.kept k, ?_, q⟩
  by_cases hj : j > i
  · rw [if_pos hj, if_pos hj]; exact ⟨_, rfl⟩
  · rw [if_neg hj, if_neg hj]; exact ⟨_, rfl⟩
theorem call_min2 (hc : X.calm = true) : CallR X (.builtin "min") (fun xs H Q => ∃ i j, xs = [.int i, .int j] ∧ Q (.int (if j < i then j else i)) H) := by
  intro pins s σ H xs us Q I r h
  obtain ⟨i, j, rfl, q⟩ := h
  obtain ⟨u, w', rfl, ⟨t, rfl⟩, ⟨t', rfl⟩⟩ := vals2 r
  refine min_two_ints (I.ok.hd hc) fun h' tk k => ⟨_, H, I.kept k, ?_, q⟩
  by_cases hj : j < i
  · rw [if_pos hj, if_pos hj]; exact ⟨_, rfl⟩
  · rw [if_neg hj, if_neg hj]; exact ⟨_, rfl⟩
theorem call_int1 : CallR X (.type "int") (fun xs H Q => (∃ i, xs = [.int i] ∧ Q (.int i) H) ∨ ∃ k, xs = [.bl k] ∧ Q (.int (if k then 1 else 0)) H) := by
  intro pins s σ H xs us Q I r h
  rcases h with ⟨i, rfl, q⟩ | ⟨k, rfl, q⟩
  · obtain ⟨u, rfl, t, rfl⟩ := vals1 r
    exact call_int_int ⟨.int i, H, I, ⟨_, rfl⟩, q⟩
  · obtain ⟨u, rfl, r1⟩ := vals1 r
    cases r1
    exact call_int_bool ⟨.int (if k then 1 else 0), H, I.tok _, ⟨_, rfl⟩, q⟩
end
end L2

namespace L2
open PySem PySem.Spec PyProof.Rows
structure ObjM (h : Heap) (x dx C : Addr) (mA : Str → Option Value) : Prop where
  obj : h.get? x = some (PySem.W.instObj C dx)
  ns : h.Ns1 dx mA
  ne : dx ≠ x

theorem lookIn_ns {h : Heap} {dx : Addr} {mA : Str → Option Value} (n : h.Ns1 dx mA) : ∃ od, h.get? dx = some od ∧ ∀ name, PySem.W.lookIn name od = some (mA name) := by
  obtain ⟨o, es, ep, ho, hd, hk, _, hm⟩ := n
  refine ⟨o, ho, fun name => ?_⟩
  have e := hm name
  unfold nsFind findBy at e
  rw [← Array.find?_toList] at e
  unfold PySem.W.lookIn
  rw [hd]
  dsimp only
  split
  · rename_i y q
    rw [q] at e
    exact congrArg some e
  · rename_i q
    rw [q] at e
    have a : es.toList.any (·.refKey) = false := by
      rw [List.any_eq_false]
      intro y hy
      obtain ⟨z, t, hkey⟩ := hk y (Array.mem_toList_iff.mp hy)
      simp [DictEntry.refKey, hkey]
    have a' : ¬ es.toList.any (·.refKey) = true := by rw [a]; exact Bool.false_ne_true
    rw [if_neg a']
    exact congrArg some e

theorem ObjM.look {h : Heap} {x dx C : Addr} {mA : Str → Option Value} (I : ObjM h x dx C mA) : ∃ od, PySem.W.InstAt h x (PySem.W.instObj C dx) C (some od) ∧ ∀ name, PySem.W.lookIn name od = some (mA name) :=
  let ⟨od, ho, hl⟩ := lookIn_ns I.ns
  ⟨od, ⟨I.obj, rfl, rfl, ho⟩, hl⟩

section
variable {prog : Program} {w : World} {A : Around} {E : Value → Shared → Prop} {s : Shared} {K : PySem.W.Frag} {x dx C f : Addr} {mA : Str → Option Value} {name : Str} {v : Value}

theorem get_map {expr : Bool} {Q : Value → Shared → Prop} (X : K.In s.heap) (I : ObjM s.heap x dx C mA) (hg : PySem.W.plainGet K C name = true) (hh : PySem.W.hasDictIn K C = true)
    (ha : PySem.W.findIn K (.ref C) name = some none) (hv : mA name = some v) (hv' : PySem.W.handedIn v = true) (h : Q v { s with toks := s.toks + 1 }) :
    wpAny (model prog w) A (getAttr (.ref x) name expr) Q E s := by
  obtain ⟨od, J, hl⟩ := I.look
  exact PySem.W.get_value X J (PySem.W.plainGet_of hg).1 (PySem.W.findObj_own hh ha rfl (by rw [hl, hv])) hv' h

theorem get_meth {pl : Sem Bool} {Q : Value × List Value → Shared → Prop} (X : K.In s.heap) (I : ObjM s.heap x dx C mA) (hg : PySem.W.plainGet K C name = true)
    (hf : PySem.W.findIn K (.ref C) name = some (some (.ref f))) (ht : PySem.W.isFn K (.ref f) = true) (hv : mA name = none) (h : Q (.ref f, [.ref x]) s) :
    wpAny (model prog w) A (getMethod (.ref x) name pl) Q E s := by
  obtain ⟨od, J, hl⟩ := I.look
  exact PySem.W.method_fn X J (PySem.W.plainGet_of hg).1 (PySem.W.plainGet_of hg).2 hf (beq_iff_eq.mp ht) (by show (PySem.W.lookIn name od).map (·.isSome) = some false; rw [hl, hv]; rfl) h

theorem set_map {ns : List Str} {Q : Unit → Shared → Prop} (X : K.In s.heap) (I : ObjM s.heap x dx C mA)
    (hs : PySem.W.findIn K (.ref C) "__setattr__" = some (some (.builtin "object.__setattr__"))) (hp : PySem.W.plainOver K C = true) (ht : PySem.W.takerIn K C name = some none) (hh : PySem.W.hasDictIn K C = true)
    (hw : PySem.Within mA ns) (hsz : ns.length ≤ sizeLine)
    (h : ∀ h', ObjM h' x dx C (fun y => if y = name then some v else mA y) → Heap.SameBut dx s.heap h' → Q () { s with heap := h', toks := s.toks + 2 }) :
    wpAny (model prog w) A (setAttr (.ref x) name v) Q E s := by
  obtain ⟨od, J, hl⟩ := I.look
  refine PySem.W.set_plain X J hs (PySem.W.osa_open (s := { s with toks := s.toks + 1 }) (r := none) X J hp ht fun b => ?_)
  obtain ⟨cd, hc, hd'⟩ := PySem.W.any_some hh
  have hx : s.heap.get? x = some ⟨.ref C, some dx, .plain, #[]⟩ := I.obj
  refine wpAny_bind (wpAny_pure (wpAny_bind (wpAny_bind (wpAny_loadPart hx (wpAny_bind (PySem.W.Looks.here (s := { s with toks := s.toks + 1 }) (PySem.W.looks_clsIn X hc) ?_))))))
  rw [hd']
  refine wpAny_pure (a := some dx) (wpAny_bind (wpAny_pure (wpAny_bind ?_)))
  refine wpAny_nsSet1 (s := { s with toks := s.toks + 1 }) I.ns fun h' hn2 hs2 => ?_
  obtain ⟨oD, esD, epD, hoD, hdD, hcD⟩ := hn2.count (PySem.Within.cons name v hw)
  refine wpAny_bind (wpAny_lookBehind hoD (by rw [hdD]; exact pastItsLine_dict (Nat.le_trans hcD (by rw [List.length_cons]; omega))) ?_)
  exact wpAny_pure (h _ ⟨(hs2.2 _ (Ne.symm I.ne)).trans I.obj, hn2, I.ne⟩ hs2)
theorem make_map {R : Result → Shared → Prop} {vs : List Value} {kw : List (Str × Value)} (X : K.In s.heap) (hm : PySem.W.makesIn K C = true)
    (hi : PySem.W.findIn K (.ref C) "__init__" = some (some (.ref f))) (hf : PySem.W.typeIn K (.ref f) = some (.type "function"))
    (h : codeAny (model prog w) (A.under (.builtin "type.__call__" ⟨.ref C :: vs, kw⟩)) (.call (.ref f) ⟨.ref (s.heap.objs.size + 1) :: vs, kw⟩) (PySem.W.InitBack (s.heap.objs.size + 1) R)
      { s with heap := (s.heap.push PySem.W.emptyDict).push (PySem.W.instObj C s.heap.objs.size) }) :
    codeAny (model prog w) A (.call (.ref C) ⟨vs, kw⟩) R s := by
  obtain ⟨hh, g, d, t, os⟩ := s
  exact PySem.W.make_core (PySem.W.makes_of X hm) (PySem.W.looks_findIn X hi) (fun self => PySem.W.bind_fn X self hf) (.inl rfl) h
end
def putF (f : Str) (v : V) : List (Str × V) → List (Str × V)
  | [] => [(f, v)]
  | (g, x) :: r => if g = f then (g, v) :: r else (g, x) :: putF f v r
theorem lookup_putF (f g : Str) (v : V) : ∀ fs : List (Str × V), (putF f v fs).lookup g = if g = f then some v else fs.lookup g
  | [] => by
    show List.lookup g [(f, v)] = _
    by_cases h : g = f
    · have hb : (g == f) = true := beq_iff_eq.mpr h
      simp only [List.lookup, hb, if_pos h]
    · have hb : (g == f) = false := beq_eq_false_iff_ne.mpr h
      simp only [List.lookup, hb, if_neg h]
  | (k, x) :: r => by
    have ih := lookup_putF f g v r
    rw [show putF f v ((k, x) :: r) = (if k = f then (k, v) :: r else (k, x) :: putF f v r) from rfl]
    by_cases hk : k = f
    · rw [if_pos hk]
      by_cases h : g = k
      · have hb : (g == k) = true := beq_iff_eq.mpr h
        simp only [List.lookup, hb, if_pos (h.trans hk)]
      · have hb : (g == k) = false := beq_eq_false_iff_ne.mpr h
        simp only [List.lookup, hb, if_neg (fun e : g = f => h (e.trans hk.symm))]
    · rw [if_neg hk]
      by_cases h : g = k
      · have hb : (g == k) = true := beq_iff_eq.mpr h
        simp only [List.lookup, hb, if_neg (fun e : g = f => hk (h.symm.trans e))]
      · have hb : (g == k) = false := beq_eq_false_iff_ne.mpr h
        simp only [List.lookup, hb]
        exact ih
theorem keys_putF (f : Str) (v : V) : ∀ fs : List (Str × V), f ∈ (putF f v fs).map (·.1) ∧ ∀ g, g ∈ fs.map (·.1) → g ∈ (putF f v fs).map (·.1)
  | [] => ⟨by simp [putF], fun g h => by simp at h⟩
  | (k, x) :: r => by
    obtain ⟨i1, i2⟩ := keys_putF f v r
    rw [show putF f v ((k, x) :: r) = (if k = f then (k, v) :: r else (k, x) :: putF f v r) from rfl]
    by_cases hk : k = f
    · rw [if_pos hk]
      subst hk
      exact ⟨by simp, fun g h => by simpa using h⟩
    · rw [if_neg hk]
      refine ⟨?_, fun g h => ?_⟩
      · rw [List.map_cons]
        exact List.mem_cons_of_mem _ i1
      · rw [List.map_cons] at h ⊢
        rcases List.mem_cons.mp h with e | e
        · exact List.mem_cons.mpr (.inl e)
        · exact List.mem_cons_of_mem _ (i2 g e)
theorem length_putF (f : Str) (v : V) : ∀ fs : List (Str × V), (putF f v fs).length ≤ fs.length + 1
  | [] => by simp [putF]
  | (k, x) :: r => by
    have ih := length_putF f v r
    rw [show putF f v ((k, x) :: r) = (if k = f then (k, v) :: r else (k, x) :: putF f v r) from rfl]
    by_cases hk : k = f
    · rw [if_pos hk, List.length_cons, List.length_cons]; omega
    · rw [if_neg hk, List.length_cons, List.length_cons]; omega

theorem RelO.some_of {v : V} {o : Option Value} (r : RelO (some v) o) : ∃ u, o = some u ∧ RelV v u := by
  cases o with
  | none => exact (show False from r).elim
  | some u => exact ⟨u, rfl, r⟩
theorem RelO.none_of {o : Option Value} (r : RelO none o) : o = none := by
  cases o with
  | none => rfl
  | some u => exact (show False from r).elim
theorem handed_of {v : V} {u : Value} (r : RelV v u) : PySem.W.handedIn u = true := by
  cases v with
  | non => cases (show u = Value.none from r); rfl
  | bl b => cases (show u = Value.bool b from r); rfl
  | int i => obtain ⟨t, e⟩ := (show ∃ t, u = Value.int i t from r); cases e; rfl
  | str x => obtain ⟨t, e⟩ := (show ∃ t, u = Value.str x t from r); cases e; rfl
  | byt b => obtain ⟨t, e⟩ := (show ∃ t, u = Value.bytes b t from r); cases e; rfl
  | flt b => obtain ⟨t, e⟩ := (show ∃ t, u = Value.float b t from r); cases e; rfl
  | ref a => cases (show u = Value.ref a from r); rfl
  | ty n => cases (show u = Value.type n from r); rfl

section
variable {P : Program} {w : World} {H H' : Hp} {h h' : Heap} {a C dx : Addr} {fs fs' : List (Str × V)}
theorem ins_get (hok : HOk P w H h) (e : H a = some (.ins C dx fs)) : ∃ mA, ObjM h a dx C mA ∧ (∀ f, RelO (fs.lookup f) (mA f)) ∧ PySem.Within mA (fs.map (·.1)) ∧ fs.length ≤ 1000 ∧ H dx = some (.own a) := by
  obtain ⟨d, z, ne, ob, mA, n, r, q⟩ := (show ObjOk P w H h a (.ins C dx fs) from hok a _ e)
  exact ⟨mA, ⟨ob, n, ne⟩, r, q, z, d⟩
end
structure Cls (K : PySem.W.Frag) (C : Addr) : Prop where
  pg : PySem.W.plainGet K C Str.empty = true
  hd : PySem.W.hasDictIn K C = true
  po : PySem.W.plainOver K C = true
  sa : PySem.W.findIn K (.ref C) "__setattr__" = some (some (.builtin "object.__setattr__"))
theorem Cls.get {K : PySem.W.Frag} {C : Addr} (c : Cls K C) (f : Str) : PySem.W.plainGet K C f = true := c.pg
def NoAttr (K : PySem.W.Frag) (C : Addr) (f : Str) : Prop := PySem.W.findIn K (.ref C) f = some none
theorem NoAttr.taker {K : PySem.W.Frag} {C : Addr} {f : Str} (n : NoAttr K C f) : PySem.W.takerIn K C f = some none := by
  unfold PySem.W.takerIn
  rw [show PySem.W.findIn K (.ref C) f = some none from n]
  rfl
structure Meth (K : PySem.W.Frag) (C : Addr) (m : Str) (f : Addr) : Prop where
  at_ : PySem.W.findIn K (.ref C) m = some (some (.ref f))
  fn : PySem.W.isFn K (.ref f) = true
  kp : PySem.W.keepIn K (.ref f) = true

section
variable {X : Cx} {pins : List (Addr × Obj)} {σ : St} {H : Hp} {s : Shared} {a C dx : Addr} {fs : List (Str × V)} {f : Str} {v : V} {A : Around} {E : Value → Shared → Prop}

theorem getattr_ok {b : Bool} {Q : Value → Shared → Prop} (I : Inv X pins σ H s) (e : H a = some (.ins C dx fs)) (c : Cls X.K C) (n : NoAttr X.K C f) (l : fs.lookup f = some v)
    (h : ∀ u s', Inv X pins σ H s' → RelV v u → Q u s') : wpAny (model X.prog X.w) A (getAttr (.ref a) f b) Q E s := by
  obtain ⟨mA, O, r, _, _, _⟩ := ins_get I.hok e
  obtain ⟨u, hu, ru⟩ := RelO.some_of (v := v) (o := mA f) (by rw [← l]; exact r f)
  exact get_map I.kIn O (c.get f) c.hd n hu (handed_of ru) (h u _ (I.tok _) ru)

theorem getmeth_ok {m : Str} {g : Addr} {pl : Sem Bool} {Q : Value × List Value → Shared → Prop} (I : Inv X pins σ H s) (e : H a = some (.ins C dx fs)) (c : Cls X.K C) (k : Meth X.K C m g) (l : fs.lookup m = none)
    (h : Q (.ref g, [.ref a]) s) : wpAny (model X.prog X.w) A (getMethod (.ref a) m pl) Q E s := by
  obtain ⟨mA, O, r, _, _, _⟩ := ins_get I.hok e
  have hn : mA m = none := RelO.none_of (by rw [← l]; exact r m)
  exact get_meth I.kIn O (c.get m) k.at_ k.fn hn h

theorem setattr_ok {y : V} {u : Value} {Q : Unit → Shared → Prop} (I : Inv X pins σ H s) (e : H a = some (.ins C dx fs)) (c : Cls X.K C) (n : NoAttr X.K C f) (hl : fs.length < 1000) (ry : RelV y u)
    (h : ∀ s', Inv X pins σ (upd H a (.ins C dx (putF f y fs))) s' → Q () s') : wpAny (model X.prog X.w) A (setAttr (.ref a) f u) Q E s := by
  obtain ⟨mA, O, r, wi, _, ho⟩ := ins_get I.hok e
  have hz : (fs.map (·.1)).length ≤ sizeLine := by rw [List.length_map, sizeLine_eq]; omega
  refine set_map I.kIn O c.sa c.po n.taker c.hd wi hz fun h' O' sb => h _ ?_
  have hd : ∃ o, h'.get? dx = some o := let ⟨o, _, _, e', _⟩ := O'.ns; ⟨o, e'⟩
  refine I.write (x := a) (e := dx) (by rw [e]; exact True.intro) (.inr ho) (fun b q hb z => (sb.2 b hb).trans z) hd ?_
  refine ⟨by rw [upd_ne O.ne]; exact ho, ?_, O.ne, O'.obj, _, O'.ns, fun g => ?_, fun g hg => ?_⟩
  · have := length_putF f y fs; omega
  · show RelO ((putF f y fs).lookup g) (if g = f then some u else mA g)
    rw [lookup_putF]
    by_cases q : g = f
    · rw [if_pos q, if_pos q]; exact ry
    · rw [if_neg q, if_neg q]; exact r g
  · by_cases q : g = f
    · rw [q]; exact (keys_putF f y fs).1
    · refine (keys_putF f y fs).2 g (wi g fun z => hg ?_)
      show (if g = f then some u else mA g) = none
      rw [if_neg q]; exact z
theorem Inv.made (I : Inv X pins σ H s) : Inv X pins σ (upd (upd H s.heap.objs.size (.own (s.heap.objs.size + 1))) (s.heap.objs.size + 1) (.ins C s.heap.objs.size []))
    { s with heap := (s.heap.push PySem.W.emptyDict).push (PySem.W.instObj C s.heap.objs.size) } := by
  have e1 : (s.heap.push PySem.W.emptyDict).get? s.heap.objs.size = some PySem.W.emptyDict := Heap.get?_push_size s.heap rfl
  have e2 : ((s.heap.push PySem.W.emptyDict).push (PySem.W.instObj C s.heap.objs.size)).get? (s.heap.objs.size + 1) = some (PySem.W.instObj C s.heap.objs.size) := by
    have := Heap.get?_push_size (s.heap.push PySem.W.emptyDict) (o := PySem.W.instObj C s.heap.objs.size) rfl
    rwa [Heap.size_push] at this
  have e3 : (s.heap.push PySem.W.emptyDict).Ns s.heap.objs.size (fun _ => none) := ⟨PySem.W.emptyDict, #[], _, e1, rfl, (fun e he => absurd he (by simp)), fun _ => rfl⟩
  have I1 := I.laid (a := s.heap.objs.size) (o := .own (s.heap.objs.size + 1)) (h' := s.heap.push PySem.W.emptyDict) (t' := s.toks) (fun b u q => Heap.get?_push_of_some _ q) (Nat.le_refl _) ⟨_, e1⟩
  refine I1.laid (a := s.heap.objs.size + 1) (o := .ins C s.heap.objs.size []) (t' := s.toks) (fun b u q => Heap.get?_push_of_some _ q) (Nat.le_of_eq (Heap.size_push _ _)) ?_
  have ne : s.heap.objs.size ≠ s.heap.objs.size + 1 := Nat.ne_of_lt (Nat.lt_succ_self _)
  refine ⟨by rw [upd_ne ne, upd_same], Nat.zero_le _, ne, e2, fun _ => none, (Heap.Ns1.of_empty e3).at fun o q => Heap.get?_push_of_some _ q, fun _ => True.intro, fun y hy => absurd rfl hy⟩
theorem attr_of {prog : Program} {w : World} {env : Env} {e : Expr} {f : Str} {pos : Pos} {s : Shared} {Q : Value → Shared → Prop} (hb : attributeBase e f env (eval e env) = eval e env)
    (h : wpAny (model prog w) A (eval e env) (fun o s₁ => wpAny (model prog w) A (getAttr o f true) Q E s₁) E s) : wpAny (model prog w) A (eval (.Attribute e f pos) env) Q E s :=
  Attribute_any_ h (by rw [arm_eval_Attribute, hb])
end
def tFld (K : PySem.W.Frag) (ta : TE) (f : Str) : TE := fun σ H Q => ta σ H fun x H1 => ∃ a C dx fs v, x = .ref a ∧ H1 a = some (.ins C dx fs) ∧ Cls K C ∧ NoAttr K C f ∧ fs.lookup f = some v ∧ Q v H1
def sFld (K : PySem.W.Frag) (ta tv : TE) (f : Str) : TS := fun D σ H => tv σ H fun y H1 => ta σ H1 fun x H2 => ∃ a C dx fs, x = .ref a ∧ H2 a = some (.ins C dx fs) ∧ Cls K C ∧ NoAttr K C f ∧ fs.length < 1000 ∧
  D.nx σ (upd H2 a (.ins C dx (putF f y fs)))
section
variable {X : Cx} {o e value : Expr} {f : Str} {pos pos' tpos : Pos} {ta tv : TE}
theorem pe_fld (he : PE X e ta) (hb : attributeBase e f X.env (eval e X.env) = eval e X.env) : PE X (.Attribute e f pos) (tFld X.K ta f) := by
  intro pins s σ H Q I h
  refine attr_of hb (thn (he pins s σ H _ I h) fun u s1 ⟨x, H1, I1, rx, a, C, dx, fs, v, ex, ea, c, n, l, q⟩ => ?_)
  subst ex
  obtain rfl : u = Value.ref a := rx
  exact getattr_ok I1 ea c n l fun u' s2 I2 ru => ⟨v, H1, I2, ru, q⟩
theorem ps_fld (ha : PE X o ta) (hv : PE X value tv) (hs : swapsWith value (some (.Attribute o f pos')) pos.line X.env = pure false) : PS X (.Assign [.Attribute o f pos'] value pos) (sFld X.K ta tv f) := by
  intro pins s σ H D I h
  refine plainObj_wpAny_Assign_Attribute (thn (hv pins s σ H _ I h) fun u s1 ⟨y, H1, I1, ry, q⟩ => thn (ha pins s1 σ H1 _ I1 q) fun ov s2 ⟨x, H2, I2, rx, a, C, dx, fs, ex, ea, c, n, l, q2⟩ => ?_) hs
  subst ex
  obtain rfl : ov = Value.ref a := rx
  exact setattr_ok I2 ea c n l ry fun s3 I3 => ⟨σ, _, I3, q2⟩
end
section
variable {X : Cx} {pins : List (Addr × Obj)} {σ : St} {H : Hp} {s : Shared} {A : Around} {E : Value → Shared → Prop} {Q : Value → Shared → Prop} {c : Value} {b : Bool}
inductive TyOf (K : PySem.W.Frag) (H : Hp) : V → Value → Prop where
  | non : TyOf K H .non (.type "NoneType")
  | bl (x : Bool) : TyOf K H (.bl x) (.type "bool")
  | int (i : Int) : TyOf K H (.int i) (.type "int")
  | str (x : Str) : TyOf K H (.str x) (.type "str")
  | flt (x : UInt64) : TyOf K H (.flt x) (.type "float")
  | lst {a : Addr} {xs : List V} (e : H a = some (.lst xs)) : TyOf K H (.ref a) (.type "list")
  | frz {a : Addr} {o : Obj} {xs : List V} (e : H a = some (.frz o (.lst xs))) : TyOf K H (.ref a) (.type "list")
  | tup {a : Addr} {xs : List V} (e : H a = some (.tup xs)) : TyOf K H (.ref a) (.type "tuple")
  | dK {a : Addr} {kvs : List (Key × V)} (e : H a = some (.dK kvs)) : TyOf K H (.ref a) (.type "dict")
  | dT {a : Addr} {kvs : List (List Key × V)} (e : H a = some (.dT kvs)) : TyOf K H (.ref a) (.type "dict")
  | ins {a C dx : Addr} {fs : List (Str × V)} (e : H a = some (.ins C dx fs)) (cl : Cls K C) (ha : PySem.W.findIn K (.ref C) "__class__" = some (some (.builtin "object.__class__")))
      (hn : PySem.W.specialIn K (.builtin "object.__class__") "__get__" = some (some (.builtin "getset_descriptor.__get__"))) (htk : PySem.W.takesIn K (.builtin "object.__class__") = some true)
      (hm : PySem.W.mroIn K C (.type "object") = some true) : TyOf K H (.ref a) (.ref C)
theorem isinst_ok {x : V} {u t : Value} (I : Inv X pins σ H s) (rx : RelV x u) (ty : TyOf X.K H x t) (e : PySem.W.kitOne X.K t c = some b) (h : ∀ tk, Q (.bool b) { s with toks := tk }) :
    wpAny (model X.prog X.w) A (call (.builtin "isinstance") [u, c]) Q E s := by
  cases ty with
  | non => cases (show u = Value.none from rx); exact PySem.W.kia_one PySem.W.kitx_none I.kIn True.intro e (fun z => nomatch z) h
  | bl y => cases (show u = Value.bool y from rx); exact PySem.W.kia_one PySem.W.kitx_bool I.kIn True.intro e (fun z => nomatch z) h
  | int i => obtain ⟨t, q⟩ := (show ∃ t, u = Value.int i t from rx); cases q; exact PySem.W.kia_one PySem.W.kitx_int I.kIn True.intro e (fun z => nomatch z) h
  | str y => obtain ⟨t, q⟩ := (show ∃ t, u = Value.str y t from rx); cases q; exact PySem.W.kia_one PySem.W.kitx_str I.kIn True.intro e (fun z => nomatch z) h
  | flt y => obtain ⟨t, q⟩ := (show ∃ t, u = Value.float y t from rx); cases q; exact PySem.W.kia_one PySem.W.kitx_float I.kIn True.intro e (fun z => nomatch z) h
  | @lst a xs ea =>
    cases (show u = Value.ref a from rx)
    obtain ⟨_, _, n, _, h1⟩ := (show ObjOk X.prog X.w H s.heap a (.lst xs) from I.hok a _ ea)
    exact PySem.W.kia_one PySem.W.kitx_list I.kIn ⟨_, h1, rfl⟩ e (fun z => nomatch z) h
  | @frz a ob xs ea =>
    cases (show u = Value.ref a from rx)
    obtain ⟨_, _, _, n, _, h1⟩ := (show ObjOk X.prog X.w H s.heap a (.frz ob (.lst xs)) from I.hok a _ ea)
    exact PySem.W.kia_one PySem.W.kitx_list I.kIn ⟨_, h1, rfl⟩ e (fun z => nomatch z) h
  | @tup a xs ea =>
    cases (show u = Value.ref a from rx)
    obtain ⟨_, _, _, p'⟩ := (show ObjOk X.prog X.w H s.heap a (.tup xs) from I.hok a _ ea)
    have p := p'.tup
    obtain ⟨o, h1, h2, _⟩ := p
    exact PySem.W.kia_one PySem.W.kitx_tuple I.kIn ⟨o, h1, h2⟩ e (fun z => nomatch z) h
  | @dK a kvs ea =>
    cases (show u = Value.ref a from rx)
    obtain ⟨_, _, vs, _, p⟩ := (show ObjOk X.prog X.w H s.heap a (.dK kvs) from I.hok a _ ea)
    obtain ⟨o, es, ep, h1, h2, _⟩ := p
    exact PySem.W.kia_one PySem.W.kitx_dict I.kIn ⟨o, h1, h2.1⟩ e (fun z => nomatch z) h
  | @dT a kvs ea =>
    cases (show u = Value.ref a from rx)
    obtain ⟨_, _, xs, _, o, es, ep, h1, h2, _⟩ := (show ObjOk X.prog X.w H s.heap a (.dT kvs) from I.hok a _ ea)
    exact PySem.W.kia_one PySem.W.kitx_dict I.kIn ⟨o, h1, h2.1⟩ e (fun z => nomatch z) h
  | @ins a C dx fs ea cl ha hn htk hm =>
    cases (show u = Value.ref a from rx)
    obtain ⟨mA, O, _⟩ := ins_get I.hok ea
    obtain ⟨od, J, _⟩ := O.look
    exact PySem.W.kia_one (PySem.W.kitx_own (cl.get _) cl.hd ha hn htk hm) I.kIn J e (fun z => nomatch z) h
end
end L2

namespace L2
open PySem PySem.Spec PyProof.Rows
structure Room (k : Nat) (A : Around) : Prop where
  hd : A.handled = none
  dp : A.depth + 3 * k + 5 < recursionLimit
  un : A.units + 16 * k + 200 < cLine
  gd : A.guards = some []
theorem Room.mono {j k : Nat} {A : Around} (r : Room k A) (h : j ≤ k) : Room j A := ⟨r.hd, by have := r.dp; omega, by have := r.un; omega, r.gd⟩
theorem Room.deeper {k : Nat} {A : Around} (r : Room (k + 1) A) (env : Env) : Room k (A.deeper env) :=
  ⟨r.hd, by have := r.dp; show A.depth + 1 + 3 * k + 5 < _; omega, by have := r.un; show A.units + 3 + 16 * k + 200 < _; omega, r.gd⟩
theorem make_depth {A : Around} {C : Addr} {us : List Value} {kw : List (Str × Value)} : (A.under (.builtin "type.__call__" ⟨.ref C :: us, kw⟩)).depth = A.depth + 1 := by
  first | rfl | simp [Around.under, Code.weight, Code.isCreation, Code.isGuard, Code.isCaller, Code.frames, Code.isFrame, guardIds]
theorem make_units {A : Around} {C : Addr} {us : List Value} {kw : List (Str × Value)} : (A.under (.builtin "type.__call__" ⟨.ref C :: us, kw⟩)).units = A.units + 1 := by
  first | rfl | simp [Around.under, Code.cUnits, Code.frames, Code.isFrame]
theorem Room.make {k : Nat} {A : Around} (r : Room (k + 1) A) (C : Addr) (us : List Value) (kw : List (Str × Value)) : Room k (A.under (.builtin "type.__call__" ⟨.ref C :: us, kw⟩)) :=
  ⟨r.hd, by have := r.dp; rw [make_depth]; omega, by have := r.un; rw [make_units]; omega, (show _ from by first | exact r.gd | (simpa [Around.under, Code.isGuard, Code.guardAt, guardIds] using r.gd))⟩
theorem Room.depth {k : Nat} {A : Around} (r : Room k A) : A.depth < recursionLimit := by have := r.dp; omega
theorem Room.units {k : Nat} {A : Around} (r : Room k A) : A.units + 64 < cLine := by have := r.un; omega
theorem Room.units0 {k : Nat} {A : Around} (r : Room k A) : A.units < cLine := by have := r.un; omega
def tNil : TA := fun _ H Q => Q [] H
def tCons (ta : TE) (tr : TA) : TA := fun σ H Q => ta σ H fun x H1 => tr σ H1 fun xs H2 => Q (x :: xs) H2
section
variable {X : Cx} {e : Expr} {es : List Expr} {te : TE} {t : TA} {pos : Pos}
theorem pa_nil : PA X [] tNil := fun _ _ _ _ H Q I h => Calls.spliced_nil ⟨[], H, I, .nil, h⟩
theorem pa_cons (ha : PE X e te) (hr : PA X es t) (hs : starEach (e :: es) X.env = (false, eval e X.env) :: starEach es X.env := by rfl) : PA X (e :: es) (tCons te t) := by
  intro pos pins s σ H Q I h
  rw [hs]
  show wpAny _ _ (spliced ((false, eval e X.env) :: backTo pos (starEach es X.env))) _ _ s
  refine Calls.spliced_cons (thn (ha pins s σ H _ I h) fun u s1 ⟨x, H1, I1, r1, q1⟩ => ?_)
  exact thn (hr pos pins s1 σ H1 _ I1 q1) fun us s2 ⟨xs, H2, I2, r2, q2⟩ => ⟨x :: xs, H2, I2, .cons r1 r2, q2⟩
def tTup (t : TA) : TE := fun σ H Q => t σ H fun xs H1 => xs.length ≤ sizeLine ∧ ∀ p, H1 p = none → Q (.ref p) (upd H1 p (.tup xs))
def tLst (t : TA) : TE := fun σ H Q => t σ H fun xs H1 => xs.length ≤ sizeLine ∧ ∀ p, H1 p = none → Q (.ref p) (upd H1 p (.lst xs))
theorem pe_tup {x1} (h : PA X es t) : PE X (.Tuple es x1 pos) (tTup t) := by
  intro pins s σ H Q I hq
  refine wpAny_Tuple_spliced (thn (h pos pins s σ H _ I hq) fun us s1 ⟨xs, H1, I1, r, z, q⟩ => ⟨by rw [← r.length]; exact z, ?_⟩)
  have hf : H1 s1.heap.objs.size = none := I1.hok.fresh (Nat.le_refl _)
  refine ⟨.ref s1.heap.objs.size, upd H1 s1.heap.objs.size (.tup xs), I1.laid (t' := s1.toks) (fun b u e => Heap.get?_push_of_some _ e) (Nat.le_refl _) ?_, rfl, q _ hf⟩
  exact ⟨z, us, r, TupX.new _ _⟩
theorem pe_lst (h : PA X es t) : PE X (.List es pos) (tLst t) := by
  intro pins s σ H Q I hq
  refine wpAny_List_spliced (thn (h pos pins s σ H _ I hq) fun us s1 ⟨xs, H1, I1, r, z, q⟩ => ⟨by rw [← r.length]; exact z, ?_⟩)
  have hf : H1 s1.heap.objs.size = none := I1.hok.fresh (Nat.le_refl _)
  refine ⟨.ref s1.heap.objs.size, upd H1 s1.heap.objs.size (.lst xs), I1.laid (t' := s1.toks) (fun b u e => Heap.get?_push_of_some _ e) (Nat.le_refl _) ?_, rfl, q _ hf⟩
  exact ⟨z, us, 0, r, Heap.get?_push_size _ rfl⟩
end
abbrev Sp := List V → Hp → VK → XK → Prop
abbrev CXT := List Env → Hp → Shared → XK → Value → Shared → Prop
structure Env0 (P : Program) (w : World) (K : PySem.W.Frag) (mg : Str → Option Value) (base : Heap) (A : Around) (outer : List Env) (s : Shared) (H : Hp) : Prop where
  frames : A.frames = some outer
  mod : Mod K mg base
  bs : ∀ b o, base.get? b = some o → s.heap.get? b = some o ∧ H b = none
  bsz : base.objs.size ≤ s.heap.objs.size
  funs : s.heap.FunFrames base outer
  frf : ∀ b ∈ frs outer, H b = none
  hok : HOk P w H s.heap
  bare : AllBare s.gens
def CE (outer : List Env) (P : Program) (w : World) (H : Hp) (s : Shared) (Q : VK) (u : Value) (s' : Shared) : Prop :=
  ∃ v H', s'.os = s.os ∧ AllBare s'.gens ∧ Un (frs outer) [] H H' s.heap s'.heap ∧ HOk P w H' s'.heap ∧ RelV v u ∧ Q v H'
def CR (CX : CXT) (outer : List Env) (P : Program) (w : World) (H : Hp) (s : Shared) (Q : VK) (E : XK) (r : Result) (s' : Shared) : Prop :=
  match r with
  | .ok (.ret u) => CE outer P w H s Q u s'
  | .ok _ => False
  | .error e => CX outer H s E e s'
structure FnOk (P : Program) (w : World) (K : PySem.W.Frag) (mg : Str → Option Value) (base : Heap) (CX : CXT) (k : Nat) (f : Addr) (fd : FuncData) (ps : List Str) (sp : Sp) : Prop where
  len : ∀ vs H Q E, sp vs H Q E → vs.length = ps.length
  run : ∀ (A : Around) (outer : List Env) (s : Shared) (H : Hp) (args : Args) (us : List Value) (vs : List V) (Q : VK) (E : XK), Room k A → Env0 P w K mg base A outer s H → BindsTo s fd args (ps.zip us) → Vals vs us → sp vs H Q E →
    codeAny (model P w) A (.call (.ref f) args) (CR CX outer P w H s Q E) s
theorem FnOk.imp {P : Program} {w : World} {K : PySem.W.Frag} {mg : Str → Option Value} {base : Heap} {CX : CXT} {k : Nat} {f : Addr} {fd : FuncData} {ps : List Str} {sp sp' : Sp} (F : FnOk P w K mg base CX k f fd ps sp)
    (h : ∀ vs H Q E, sp' vs H Q E → sp vs H Q E) : FnOk P w K mg base CX k f fd ps sp' :=
  ⟨fun vs H Q E q => F.len vs H Q E (h _ _ _ _ q), fun A outer s H args us vs Q E hr he hb hv hs => F.run A outer s H args us vs Q E hr he hb hv (h _ _ _ _ hs)⟩

theorem Env0.make {P : Program} {w : World} {K : PySem.W.Frag} {mg : Str → Option Value} {base : Heap} {A : Around} {outer : List Env} {s : Shared} {H : Hp} (e : Env0 P w K mg base A outer s H) (C : Addr) (us : List Value) (kw : List (Str × Value)) :
    Env0 P w K mg base (A.under (.builtin "type.__call__" ⟨.ref C :: us, kw⟩)) outer s H := ⟨by first | exact e.frames | (simpa [Around.under, Code.envs, Code.isFrame, pushEnvs] using e.frames), e.mod, e.bs, e.bsz, e.funs, e.frf, e.hok, e.bare⟩
section
variable {X : Cx} {pins : List (Addr × Obj)} {σ : St} {H : Hp} {s s' : Shared}
theorem Inv.env0 (I : Inv X pins σ H s) : Env0 X.prog X.w X.K X.mg X.base X.A X.stack s H :=
  ⟨I.ok.frames, I.ok.mod, I.bs, Nat.le_trans I.ok.bsz I.sz, I.stack, I.stkFree, I.hok, I.bare⟩
theorem Inv.after {Q : VK} {u : Value} (I : Inv X pins σ H s) (h : CE X.stack X.prog X.w H s Q u s') : EP X pins σ Q u s' := by
  obtain ⟨v, H', os, bare, un, hok, r, q⟩ := h
  obtain ⟨hh, g, d, t, os'⟩ := s'
  obtain rfl : os' = s.os := os
  exact ⟨v, H', I.call (h' := hh) (g' := g) (d' := d) (t' := t) (ch := []) un hok bare (fun b z => absurd z (by simp)), r, q⟩
end
def tCall (sp : Sp) (dvs : List V) (E : XK) (t : TA) : TE := fun σ H Q => t σ H fun vs H1 => sp (vs ++ dvs) H1 Q E
def tMeth (C : Addr) (m : Str) (sp : Sp) (dvs : List V) (E : XK) (ta : TE) (t : TA) : TE := fun σ H Q => ta σ H fun x H1 => ∃ a dx fs, x = .ref a ∧ H1 a = some (.ins C dx fs) ∧ fs.lookup m = none ∧
  t σ H1 fun vs H2 => sp (x :: (vs ++ dvs)) H2 Q E
def tMake (C : Addr) (sp : Sp) (dvs : List V) (E : XK) (t : TA) : TE := fun σ H Q => t σ H fun vs H1 => ∀ x dx, H1 x = none → H1 dx = none → dx ≠ x →
  sp (.ref x :: (vs ++ dvs)) (upd (upd H1 dx (.own x)) x (.ins C dx [])) (fun v H2 => v = .non ∧ Q (.ref x) H2) E
def Binds (K : PySem.W.Frag) (fd : FuncData) (ps : List Str) (ds : List Value) : Prop :=
  ∀ (s : Shared) (us : List Value), K.In s.heap → (us ++ ds).length = ps.length → BindsTo s fd ⟨us, []⟩ (ps.zip (us ++ ds))
theorem Binds.all {K : PySem.W.Frag} {fd : FuncData} {ps : List Str} (h : ∀ us : List Value, us.length = ps.length → bindArgs fd ⟨us, []⟩ = pure (ps.zip us)) : Binds K fd ps [] := fun s us _ hl => by
  rw [List.append_nil] at hl ⊢
  exact .of_eq (h us hl)
def Passes (CX : CXT) (X : Cx) (E : XK) : Prop := ∀ (pins : List (Addr × Obj)) (σ : St) (H : Hp) (s : Shared) (e : Value) (s' : Shared), Inv X pins σ H s → CX X.stack H s E e s' → X.xe e s'

section
variable {X : Cx} {CX : CXT} {k : Nat} {f C : Addr} {fd : FuncData} {ps : List Str} {sp : Sp} {dvs : List V} {ds : List Value} {E : XK} {x m : Str} {p pos apos : Pos} {e o : Expr} {es : List Expr} {ta : TE} {t : TA}
theorem run_fn {pins : List (Addr × Obj)} {σ : St} {H : Hp} {s : Shared} {Q : VK} {us : List Value} {vs : List V} (F : FnOk X.prog X.w X.K X.mg X.base CX k f fd ps sp) (hr : Room k X.A) (hb : Binds X.K fd ps ds) (hd : Vals dvs ds) (hx : Passes CX X E)
    (I : Inv X pins σ H s) (r : Vals vs us) (h : sp (vs ++ dvs) H Q E) : wpAny (model X.prog X.w) X.A (call (.ref f) us) (EP X pins σ Q) X.xe s := by
  have r2 : Vals (vs ++ dvs) (us ++ ds) := r.append hd
  have hl : (us ++ ds).length = ps.length := by rw [← r2.length]; exact F.len _ _ _ _ h
  refine wpAny_call (codeAny_mono (F.run X.A X.stack s H ⟨us, []⟩ (us ++ ds) (vs ++ dvs) Q E hr I.env0 (hb s us I.kIn hl) r2 h) fun r s' hq => ?_)
  cases r with
  | error e => exact hx pins σ H s e s' I hq
  | ok fl =>
    cases fl with
    | ret u => exact I.after hq
    | next => exact False.elim hq
    | brk => exact False.elim hq
    | cont => exact False.elim hq

theorem pe_call (F : FnOk X.prog X.w X.K X.mg X.base CX k f fd ps sp) (hr : Room k X.A) (hg : Gl X x) (hm : X.mg x = some (.ref f)) (hk : PySem.W.keepIn X.K (.ref f) = true) (hb : Binds X.K fd ps ds) (hd : Vals dvs ds) (hx : Passes CX X E)
    (ha : PA X (e :: es) t) (hdb : (x == ("__debug__" : Str)) = false := by decide) (he : starEach (e :: es) X.env = (false, eval e X.env) :: starEach es X.env := by rfl) (hpl : (backTo pos (starEach es X.env)).any (·.1) = false := by rfl) :
    PE X (.Call (.Name x p) (e :: es) [] pos) (tCall sp dvs E t) := by
  intro pins s σ H Q I h
  refine wpAny_Call_Name_kw (ld_glob I hg hm ?_ hdb)
  refine PySem.W.callWith_K (h₀ := X.base) I.ok.mod.kin hk (thn (ha pos pins s σ H _ I h) fun us s1 ⟨vs, H1, I1, r, q⟩ => ⟨I1.kIn, ?_⟩) he hpl
  exact run_fn F hr hb hd hx I1 r q
theorem pe_meth {pl : Sem Bool} (he : PE X o ta) (c : Cls X.K C) (hm : Meth X.K C m f) (F : FnOk X.prog X.w X.K X.mg X.base CX k f fd ps sp) (hr : Room k X.A) (hb : Binds X.K fd ps ds) (hd : Vals dvs ds) (hx : Passes CX X E) (ha : PA X (e :: es) t)
    (hst : starEach (e :: es) X.env = (false, eval e X.env) :: starEach es X.env := by rfl) (hpl : (backTo pos (starEach es X.env)).any (·.1) = false := by rfl)
    (ht : eval (.Call (.Attribute o m apos) (e :: es) [] pos) X.env = (do
      let ov ← eval o X.env
      standAt apos.atName
      let (f, first) ← holding [ov] (getMethod ov m pl)
      callWith pos f first (backTo pos (starEach (e :: es) X.env)) (backToKw pos (keywordEach [] X.env))) := by rfl) :
    PE X (.Call (.Attribute o m apos) (e :: es) [] pos) (tMeth C m sp dvs E ta t) := by
  intro pins s σ H Q I h
  refine PySem.W.methodCall_KW (pl := pl) (thn (he pins s σ H _ I h) fun u s1 ⟨x, H1, I1, rx, a, dx, fs, ex, ea, l, q⟩ => ?_) ht
  subst ex
  obtain rfl : u = Value.ref a := rx
  refine getmeth_ok I1 ea c hm l ?_
  refine PySem.W.callWith_K (first := [.ref a]) (h₀ := X.base) I.ok.mod.kin hm.kp (thn (ha pos pins s1 σ H1 _ I1 q) fun us s2 ⟨vs, H2, I2, r, q2⟩ => ⟨I2.kIn, ?_⟩) hst hpl
  exact run_fn (us := .ref a :: us) (vs := .ref a :: vs) F hr hb hd hx I2 (.cons rfl r) q2
structure Mk (K : PySem.W.Frag) (C f : Addr) : Prop where
  makes : PySem.W.makesIn K C = true
  init : PySem.W.findIn K (.ref C) "__init__" = some (some (.ref f))
  fn : PySem.W.isFn K (.ref f) = true
  kp : PySem.W.keepIn K (.ref C) = true

theorem run_make {pins : List (Addr × Obj)} {σ : St} {H : Hp} {s : Shared} {Q : VK} {us : List Value} {vs : List V} (M : Mk X.K C f) (F : FnOk X.prog X.w X.K X.mg X.base CX k f fd ps sp) (hr : Room (k + 1) X.A) (hb : Binds X.K fd ps ds) (hd : Vals dvs ds)
    (hx : Passes CX X E) (I : Inv X pins σ H s) (r : Vals vs us)
    (h : ∀ x dx, H x = none → H dx = none → dx ≠ x → sp (.ref x :: (vs ++ dvs)) (upd (upd H dx (.own x)) x (.ins C dx [])) (fun v H2 => v = .non ∧ Q (.ref x) H2) E) :
    wpAny (model X.prog X.w) X.A (call (.ref C) us) (EP X pins σ Q) X.xe s := by
  have hq := h (s.heap.objs.size + 1) s.heap.objs.size (I.hok.fresh (Nat.le_succ _)) (I.hok.fresh (Nat.le_refl _)) (Nat.ne_of_lt (Nat.lt_succ_self _))
  have I2 := Inv.made (C := C) I
  have r2 : Vals (V.ref (s.heap.objs.size + 1) :: (vs ++ dvs)) (Value.ref (s.heap.objs.size + 1) :: (us ++ ds)) := .cons rfl (r.append hd)
  have hl : (Value.ref (s.heap.objs.size + 1) :: us ++ ds).length = ps.length := by
    have e := r2.length
    rw [F.len _ _ _ _ hq] at e
    exact e.symm
  refine wpAny_call (make_map (f := f) I.kIn M.makes M.init (beq_iff_eq.mp M.fn) (codeAny_mono (F.run _ X.stack _ _ ⟨Value.ref (s.heap.objs.size + 1) :: us, []⟩ (Value.ref (s.heap.objs.size + 1) :: (us ++ ds)) _ _ E (hr.make C us [])
    (I2.env0.make C us []) (hb _ (Value.ref (s.heap.objs.size + 1) :: us) I2.kIn hl) r2 hq) fun r s' hq' => ?_))
  cases r with
  | error e => exact hx pins σ _ _ e s' I2 hq'
  | ok fl =>
    cases fl with
    | ret u =>
      obtain ⟨v, H', I3, rv, ev, q3⟩ := I2.after hq'
      subst ev
      exact ⟨rv, ⟨V.ref (s.heap.objs.size + 1), H', I3, rfl, q3⟩⟩
    | next => exact False.elim hq'
    | brk => exact False.elim hq'
    | cont => exact False.elim hq'
theorem pe_make (M : Mk X.K C f) (F : FnOk X.prog X.w X.K X.mg X.base CX k f fd ps sp) (hr : Room (k + 1) X.A) (hg : Gl X x) (hm : X.mg x = some (.ref C)) (hb : Binds X.K fd ps ds) (hd : Vals dvs ds) (hx : Passes CX X E)
    (ha : PA X (e :: es) t) (hdb : (x == ("__debug__" : Str)) = false := by decide) (he : starEach (e :: es) X.env = (false, eval e X.env) :: starEach es X.env := by rfl) (hpl : (backTo pos (starEach es X.env)).any (·.1) = false := by rfl) :
    PE X (.Call (.Name x p) (e :: es) [] pos) (tMake C sp dvs E t) := by
  intro pins s σ H Q I h
  refine wpAny_Call_Name_kw (ld_glob I hg hm ?_ hdb)
  refine PySem.W.callWith_K (h₀ := X.base) I.ok.mod.kin M.kp (thn (ha pos pins s σ H _ I h) fun us s1 ⟨vs, H1, I1, r, q⟩ => ⟨I1.kIn, ?_⟩) he hpl
  exact run_make M F hr hb hd hx I1 r q
end
section
variable {X : Cx} {CX : CXT} {k : Nat} {f C : Addr} {fd : FuncData} {ps ks : List Str} {sp : Sp} {E : XK} {x m : Str} {p pos apos kpos : Pos} {e o : Expr} {es : List Expr} {kws : List Keyword} {te ta : TE} {t tk : TA} {nm : Option Str}
variable {g : List Value → List Value → List Value} {gV : List V → List V → List V}
end
structure FnScope (N P : List Str) (sc : Scope) : Prop where
  kind : sc.kind = .function
  co : sc.isCoroutine = false
  gen : sc.isGenerator = false
  nd : N.Nodup
  pre : N.take P.length = P
  par : ∀ x ∈ P, sc.names.lookup x = some .local ∨ sc.names.lookup x = some .cell
  nofree : ∀ y ∈ sc.names, y.2 ≠ .free

theorem bindL_out {kindOf : Str → Option NameKind} {x : Str} : ∀ {binds : List (Str × Value)} {m : Str → Option Value}, (∀ v, (x, v) ∉ binds) → bindL kindOf binds m x = m x
  | [], _, _ => rfl
  | (n, v) :: r, m, h => by
    unfold bindL
    rw [bindL_out fun w hw => h w (List.mem_cons_of_mem _ hw)]
    split
    · have : x ≠ n := by rintro rfl; exact h v List.mem_cons_self
      simp [this]
    · rfl
theorem bindC_out {kindOf : Str → Option NameKind} {x : Str} : ∀ {binds : List (Str × Value)} {m : Str → Option Value}, (∀ v, (x, v) ∉ binds) → bindC kindOf binds m x = m x
  | [], _, _ => rfl
  | (n, v) :: r, m, h => by
    unfold bindC
    rw [bindC_out fun w hw => h w (List.mem_cons_of_mem _ hw)]
    split
    · rfl
    · have : x ≠ n := by rintro rfl; exact h v List.mem_cons_self
      simp [this]
theorem bindL_get {kindOf : Str → Option NameKind} {x : Str} {v : Value} : ∀ {P : List Str} {vs : List Value} {i : Nat} {m : Str → Option Value}, P.Nodup → P[i]? = some x → vs[i]? = some v → kindOf x = some .local →
    bindL kindOf (P.zip vs) m x = some v
  | [], _, _, _, _, h, _, _ => by simp at h
  | _ :: _, [], _, _, _, _, h, _ => by simp at h
  | p :: P, w :: vs, 0, m, nd, h1, h2, hk => by
    simp at h1 h2; subst h1; subst h2
    show bindL kindOf ((p, w) :: P.zip vs) m p = _
    unfold bindL
    rw [bindL_out fun v hv => (List.nodup_cons.mp nd).1 (List.of_mem_zip hv).1, if_pos hk]
    simp
  | p :: P, w :: vs, i + 1, m, nd, h1, h2, hk => by
    show bindL kindOf ((p, w) :: P.zip vs) m x = _
    unfold bindL
    exact bindL_get (i := i) (List.nodup_cons.mp nd).2 (by simpa using h1) (by simpa using h2) hk
theorem bindC_get {kindOf : Str → Option NameKind} {x : Str} {v : Value} : ∀ {P : List Str} {vs : List Value} {i : Nat} {m : Str → Option Value}, P.Nodup → P[i]? = some x → vs[i]? = some v → kindOf x ≠ some .local →
    bindC kindOf (P.zip vs) m x = some v
  | [], _, _, _, _, h, _, _ => by simp at h
  | _ :: _, [], _, _, _, _, h, _ => by simp at h
  | p :: P, w :: vs, 0, m, nd, h1, h2, hk => by
    simp at h1 h2; subst h1; subst h2
    show bindC kindOf ((p, w) :: P.zip vs) m p = _
    unfold bindC
    rw [bindC_out fun v hv => (List.nodup_cons.mp nd).1 (List.of_mem_zip hv).1, if_neg hk]
    simp
  | p :: P, w :: vs, i + 1, m, nd, h1, h2, hk => by
    show bindC kindOf ((p, w) :: P.zip vs) m x = _
    unfold bindC
    exact bindC_get (i := i) (List.nodup_cons.mp nd).2 (by simpa using h1) (by simpa using h2) hk
def start (N : List Str) (vs : List V) : St := vs.map some ++ List.replicate (N.length - vs.length) none
def cxOf (CX : CXT) (P : Program) (w : World) (K : PySem.W.Frag) (mg : Str → Option Value) (base : Heap) (N : List Str) (qual : Str) (scope : Scope) (f : Addr) (cd : Value) (A : Around) (outer : List Env) (s : Shared) (H : Hp) (E : XK) : Cx where
  prog := P
  w := w
  K := K
  mg := mg
  base := base
  A := A.deeper (envOfC qual scope s.heap.objs.size f cd)
  N := N
  s₀ := s
  H₀ := H
  env := envOfC qual scope s.heap.objs.size f cd
  outer := outer
  stack := envOfC qual scope s.heap.objs.size f cd :: outer
  ex := []
  calm := true
  fn := fun _ => true
  pn := []
  xe := fun e s' => wpAny (model P w) (A.deeper (envOfC qual scope s.heap.objs.size f cd)) (leaving (envOfC qual scope s.heap.objs.size f cd) e) (fun _ s'' => CX outer H s E e s'') (fun e' s'' => CX outer H s E e' s'') s'

theorem cell_has {sc : Scope} {n : Nat} {x : Str} (h : sc.names.lookup x = some .cell) : ∃ c, (cellsFrom n sc.names []).lookup x = some c := by
  have q := PySem.W.cellsFrom_some sc.names n [] (.inl h)
  exact Option.isSome_iff_exists.mp q

theorem inv_start {CX : CXT} {P : Program} {w : World} {K : PySem.W.Frag} {mg : Str → Option Value} {base : Heap} {N ps : List Str} {qual : Str} {scope : Scope} {f : Addr} {cd : Value} {A : Around} {outer : List Env} {s s1 : Shared} {H : Hp} {E : XK} {us : List Value} {vs : List V}
    (S : FnScope N ps scope) (hd : A.handled = none) (e0 : Env0 P w K mg base A outer s H) (hl : vs.length = ps.length) (r : Vals vs us)
    (x : InCallC s s.heap.objs.size (bindL (envOfC qual scope s.heap.objs.size f cd).kindOf (ps.zip us) fun _ => none) (cellsFrom (s.heap.objs.size + 1) scope.names []) (bindC (envOfC qual scope s.heap.objs.size f cd).kindOf (ps.zip us) fun _ => none) s1) :
    Inv (cxOf CX P w K mg base N qual scope f cd A outer s H E) [] (start N vs) H s1 := by
  have hpl : ps.length ≤ N.length := by have := congrArg List.length S.pre; rw [List.length_take] at this; omega
  obtain ⟨h1, tk, rfl, hk⟩ := x.done
  have noA : ∀ b : Addr, b ∉ (cxOf CX P w K mg base N qual scope f cd A outer s H E).ex := fun b z => absurd (show b ∈ ([] : List Addr) from z) (by simp)
  refine ⟨⟨e0.mod, S.kind, rfl, rfl, Nat.le_refl _, fun y z c h1 h2 => ?_, fun y hy => ?_, fun y c _ h => ?_, fun _ => hd, Around.frames_deeper e0.frames, .inr ⟨rfl, rfl⟩, fun b z => absurd z (noA b), e0.bs, e0.bsz, fun b _ _ => noA b, fun b z => absurd z (noA b), e0.funs, e0.frf⟩,
    rfl, e0.bare, Un.kept hk, ⟨_, x.toInCall.ns, fun i y v h1 h2 h3 => ?_⟩, fun y c h => ⟨_, x.cell y c h⟩, e0.hok.fresh (Nat.le_refl _), fun y c h => ?_, fun p hp => absurd (show p ∈ ([] : List (Addr × Obj)) from hp) (by simp), e0.hok.kept hk, ?_⟩
  · exact name_of_addr x.apart (PySem.mem_of_lookup h1) (PySem.mem_of_lookup h2)
  · have hy : scope.names.lookup y = some .cell ∨ scope.names.lookup y = some .free := hy
    rcases hy with hy | hy
    · exact cell_has hy
    · exact absurd rfl (S.nofree _ (PySem.mem_of_lookup hy))
  · exact Nat.le_of_lt (x.above y c (PySem.mem_of_lookup h))
  · have hi : i < vs.length := by
      unfold start at h2
      by_cases hi : i < vs.length
      · exact hi
      · rw [List.getElem?_append_right (by simpa using hi)] at h2
        rw [List.getElem?_replicate] at h2
        split at h2 <;> cases h2
    have ha : vs[i]? = some v := by
      unfold start at h2
      rw [List.getElem?_append_left (by simpa using hi), List.getElem?_map] at h2
      cases e : vs[i]? with
      | none => rw [e] at h2; cases h2
      | some a => rw [e] at h2; cases h2; rfl
    obtain ⟨u, hu, rv⟩ := r.get ha
    have hp : ps[i]? = some y := by
      rw [← S.pre, List.getElem?_take_of_lt (by omega)]; exact h1
    have ndP : ps.Nodup := by rw [← S.pre]; exact S.nd.sublist (List.take_sublist _ _)
    refine ⟨u, rv, ?_⟩
    rcases S.par y (List.mem_of_getElem? hp) with k | k
    · exact .inl ⟨k, bindL_get ndP hp hu k⟩
    · obtain ⟨c, e⟩ := cell_has (n := s.heap.objs.size + 1) k
      refine .inr ⟨.inl k, c, e, ?_⟩
      have q := x.cell y c e
      rw [bindC_get ndP hp hu (by show scope.names.lookup y ≠ _; rw [k]; decide)] at q
      exact q
  · exact e0.hok.fresh (Nat.le_of_lt (x.above y c (PySem.mem_of_lookup h)))
  · unfold start
    show _ = N.length
    rw [List.length_append, List.length_map, List.length_replicate]
    omega
theorem fn_of {CX : CXT} {P : Program} {w : World} {K : PySem.W.Frag} {mg : Str → Option Value} {base : Heap} {k : Nat} {f : Addr} {name qual : Str} {params : Arguments} {body : List Stmt} {scope : Scope} {dV kV doc pm cdv ct oc : Value} {an od : Option Addr}
    {osl : Array (Option Value)} {N ps : List Str} {sp : Sp} (lk : K.lookup f = some ⟨oc, od, .func (PySem.W.fnOf name qual params body scope dV kV doc pm an cdv ct), osl⟩) (hcd : PySem.W.codeIn K cdv qual = true) (S : FnScope N ps scope)
    (len : ∀ vs H Q E, sp vs H Q E → vs.length = ps.length)
    (hbody : ∀ (A : Around) (outer : List Env) (s : Shared) (H : Hp) (vs : List V) (Q : VK) (E : XK), Room k (A.deeper (envOfC qual scope s.heap.objs.size f cdv)) → sp vs H Q E →
      ∃ t, PSs (cxOf CX P w K mg base N qual scope f cdv A outer s H E) body t ∧ t { nx := fun _ H' => Q .non H', rt := Q } (start N vs) H) :
    FnOk P w K mg base CX (k + 1) f (PySem.W.fnOf name qual params body scope dV kV doc pm an cdv ct) ps sp := by
  refine ⟨len, fun A outer s H args us vs Q E hr e0 hb r hsp => ?_⟩
  have hl := len _ _ _ _ hsp
  have KX : K.In s.heap := e0.mod.kin.keeps fun b o e => (e0.bs b o e).1
  have lim : s.heap.NoLimit := e0.mod.nolimit.keeps fun b o e => (e0.bs b o e).1
  have hkind : ∀ y ∈ ps.zip us, scope.names.lookup y.1 = some .local ∨ (scope.names.lookup y.1 = some .cell ∧ ((cellsFrom (s.heap.objs.size + 1) scope.names []).lookup y.1).isSome = true) := fun ⟨n, v⟩ hy => by
    rcases S.par n (List.of_mem_zip hy).1 with q | q
    · exact .inl q
    · exact .inr ⟨q, PySem.W.cellsFrom_some _ _ _ (.inl q)⟩
  refine codeAny_call_function hr.depth (KX _ _ lk) rfl S.co S.gen rfl (PySem.W.codeRec_of KX hcd) (hb _ _ _ _ ?_)
  refine wpAny_newFunctionEnv_cells S.kind hkind fun env he s1 x => ?_
  subst he
  refine ⟨lim.keeps x.toInCall.keep, codeAny_func ?_⟩
  obtain ⟨t, ht, hq⟩ := hbody A outer s H vs Q E (hr.deeper _) hsp
  have I : Inv (cxOf CX P w K mg base N qual scope f cdv A outer s H E) [] (start N vs) H s1 := inv_start S hr.hd e0 hl r x
  refine wpAny_mono (ht [] s1 (start N vs) H _ I hq) (fun fl s' hs => ?_) fun e s' hs => hs
  have fin : ∀ {σ' : St} {H' : Hp} {v : V} {u : Value}, Inv (cxOf CX P w K mg base N qual scope f cdv A outer s H E) [] σ' H' s' → RelV v u → Q v H' → CE outer P w H s Q u s' :=
    fun {σ' H' v u} J rv q => ⟨v, H', J.os, J.bare, J.base, J.hok, rv, q⟩
  cases fl with
  | ret u =>
    obtain ⟨v, σ', H', J, rv, q⟩ := hs
    exact fin J rv q
  | next =>
    obtain ⟨σ', H', J, q⟩ := hs
    exact fin (v := V.non) (u := Value.none) J rfl q
  | brk =>
    obtain ⟨_, _, _, q⟩ := hs
    exact False.elim q
  | cont =>
    obtain ⟨_, _, _, q⟩ := hs
    exact False.elim q
end L2

namespace L2
open PySem PySem.Spec PyProof.Rows
section
variable {X : Cx} {x : Str} {p pos : Pos} {e : Expr} {es : List Expr} {t : TA} {id T : String} {r : List V → Hp → VK → Prop}

def tCB (r : List V → Hp → VK → Prop) (t : TA) : TE := fun σ H Q => t σ H fun vs H1 => r vs H1 Q
theorem pe_callB (hc : CallR X (.builtin id) r) (hg : Gl X x) (hm : X.mg x = none) (hv : bootBuiltins x = some (.builtin id)) (ha : PA X (e :: es) t) (hn : x ≠ "__name__" := by decide) (hdb : (x == ("__debug__" : Str)) = false := by decide)
    (he : starEach (e :: es) X.env = (false, eval e X.env) :: starEach es X.env := by rfl) (hpl : (backTo pos (starEach es X.env)).any (·.1) = false := by rfl) : PE X (.Call (.Name x p) (e :: es) [] pos) (tCB r t) := by
  intro pins s σ H Q I h
  refine wpAny_Call_Name_kw (ld_blt I hg hm hv ?_ hn hdb)
  exact PyProof.Rows.callWith_builtin1 (thn (ha pos pins s σ H _ I h) fun us s1 ⟨vs, H1, I1, r1, q1⟩ => hc pins s1 σ H1 vs us Q I1 r1 q1) he hpl
theorem pe_callTy (hc : CallR X (.type T) r) (hg : Gl X x) (hm : X.mg x = none) (hv : bootBuiltins x = some (.type T)) (ha : PA X (e :: es) t) (hn : x ≠ "__name__" := by decide) (hdb : (x == ("__debug__" : Str)) = false := by decide)
    (he : starEach (e :: es) X.env = (false, eval e X.env) :: starEach es X.env := by rfl) (hpl : (backTo pos (starEach es X.env)).any (·.1) = false := by rfl) : PE X (.Call (.Name x p) (e :: es) [] pos) (tCB r t) := by
  intro pins s σ H Q I h
  refine wpAny_Call_Name_kw (ld_blt I hg hm hv ?_ hn hdb)
  exact PyProof.Rows.callWith_type1 (thn (ha pos pins s σ H _ I h) fun us s1 ⟨vs, H1, I1, r1, q1⟩ => hc pins s1 σ H1 vs us Q I1 r1 q1) he hpl
end
end L2

namespace HT
open PySem PyProof.Rows

section
open PySem.SeqAt
open PySem.AutoSeq1 (wpAny_loadPart')
open PySem.MeetsSeq PySem.MeetsSeq2 PySem.MeetsSeq3

end

section
variable {prog : Program} {w : World} {A : Around} {E : Value → Shared → Prop} {s : Shared}
end
end HT

namespace L2
open PySem PySem.Spec PyProof.Rows
abbrev TO := St → Hp → (Option Int → Hp → Prop) → Prop
def PO (X : Cx) (e : Option Expr) (t : TO) : Prop :=
  ∀ (pins : List (Addr × Obj)) (s : Shared) (σ : St) (H : Hp) (Q : Option Int → Hp → Prop), Inv X pins σ H s → t σ H Q →
    wpAny (model X.prog X.w) X.A (evalPart e X.env) (fun u s' => ∃ o H', Inv X pins σ H' s' ∧ IsPart u o ∧ Q o H') X.xe s
def tPart (t : TE) : TO := fun σ H Q => t σ H fun x H1 => ∃ i, x = .int i ∧ Q (some i) H1

section
variable {X : Cx} {e : Expr} {te : TE} {lo hi : Option Expr} {tl th : TO} {pos p2 : Pos}

theorem po_some (h : PE X e te) : PO X (some e) (tPart te) := by
  intro pins s σ H Q I hw
  rw [evalPart_some]
  refine thn (h pins s σ H _ I hw) fun u s1 ⟨x, H1, I1, r1, q1⟩ => ?_
  obtain ⟨i, rfl, q⟩ := q1
  obtain ⟨t, rfl⟩ := r1
  exact ⟨some i, H1, I1, .int i t, q⟩
end
end L2

namespace L2
open PySem PySem.Spec PyProof.Rows
def ixN (n : Nat) (i : Int) : Option Nat := if 0 ≤ i then (if i < n then some i.toNat else none) else if -(n : Int) ≤ i then some (i + n).toNat else none
def atI {α : Type} (xs : List α) (i : Int) : Option α := (ixN xs.length i).bind fun j => xs[j]?
theorem ixN_seq {n : Nat} {i : Int} {j : Nat} (h : ixN n i = some j) : seqIndex? i n = some j ∧ j < n ∧ -(n : Int) ≤ i ∧ i < n := by
  unfold ixN at h
  by_cases h0 : 0 ≤ i
  · rw [if_pos h0] at h
    by_cases h1 : i < n
    · rw [if_pos h1] at h
      have e : i.toNat = j := Option.some.inj h
      exact ⟨by rw [seqIndex_of h0 h1, e], by omega, by omega, h1⟩
    · rw [if_neg h1] at h; cases h
  · rw [if_neg h0] at h
    by_cases h1 : -(n : Int) ≤ i
    · rw [if_pos h1] at h
      have e : (i + n).toNat = j := Option.some.inj h
      exact ⟨by rw [seqIndex_neg (by omega) h1, e], by omega, h1, by omega⟩
    · rw [if_neg h1] at h; cases h
theorem atI_get {α : Type} {xs : List α} {i : Int} {v : α} (h : atI xs i = some v) : ∃ j, seqIndex? i xs.length = some j ∧ xs[j]? = some v ∧ j < xs.length ∧ -(xs.length : Int) ≤ i ∧ i < xs.length := by
  unfold atI at h
  cases e : ixN xs.length i with
  | none => rw [e] at h; cases h
  | some j =>
    rw [e] at h
    obtain ⟨h1, h2, h3, h4⟩ := ixN_seq e
    exact ⟨j, h1, h, h2, h3, h4⟩
theorem atI_nat {α : Type} {xs : List α} {j : Nat} {v : α} (h : xs[j]? = some v) : atI xs (j : Int) = some v := by
  have hj : j < xs.length := (List.getElem?_eq_some_iff.mp h).1
  have e : ixN xs.length (j : Int) = some j := by
    unfold ixN
    rw [if_pos (by omega), if_pos (by omega)]; simp
  unfold atI; rw [e]; exact h
theorem atI_last {α : Type} (xs : List α) (v : α) : atI (xs ++ [v]) (-1) = some v := by
  have hl : (xs ++ [v]).length = xs.length + 1 := by simp
  have e : ixN (xs ++ [v]).length (-1) = some xs.length := by
    unfold ixN
    rw [hl, if_neg (by decide), if_pos (by omega)]
    congr 1
    omega
  unfold atI
  rw [e]
  show (xs ++ [v])[xs.length]? = some v
  simp
def PlainIx (b : Expr) : Prop := ∀ o i, subscripted b false o i = operate [o, i] (getItem o i)
def IxR (X : Cx) (r : R2) : Prop :=
  ∀ (value slice : Expr) (pins : List (Addr × Obj)) (s : Shared) (σ : St) (H : Hp) (x y : V) (v u : Value) (Q : VK), Inv X pins σ H s → RelV x v → RelV y u → r x y H Q →
    subscripted slice false v u = operate [v, u] (getItem v u) → wpAny (model X.prog X.w) X.A (subscriptTail value slice v u) (EP X pins σ Q) X.xe s
def MtR (X : Cx) (id : String) (r : V → List V → Hp → VK → Prop) : Prop :=
  ∀ (pins : List (Addr × Obj)) (s : Shared) (σ : St) (H : Hp) (x : V) (xs : List V) (v : Value) (us : List Value) (Q : VK), Inv X pins σ H s → RelV x v → Vals xs us → r x xs H Q →
    wpAny (model X.prog X.w) X.A (call (.builtin id) (v :: us)) (EP X pins σ Q) X.xe s
section
variable {X : Cx} {a b : Expr} {ta tb : TE} {pos : Pos}
theorem pe_ix {r : R2} (hr : IxR X r) (ha : PE X a ta) (hb : PE X b tb) (hs : PlainIx b) : PE X (.Subscript a b pos) (tOp r ta tb) := by
  intro pins s σ H Q I h
  exact Subscript_ (binT ha hb I h fun v u s2 x y H2 I2 rx ry q => hr a b pins s2 σ H2 x y v u Q I2 rx ry q (hs _ _))

def rIxL (K : PySem.W.Frag) : R2 := fun x y H Q => ∃ p xs i v, x = .ref p ∧ y = .int i ∧ SqL K H p xs ∧ atI xs i = some v ∧ Q v H
def rIxT (K : PySem.W.Frag) : R2 := fun x y H Q => ∃ p xs i v, x = .ref p ∧ y = .int i ∧ SqT K H p xs ∧ atI xs i = some v ∧ Q v H
theorem ix_list : IxR X (rIxL X.K) := by
  intro value slice pins s σ H x y v u Q I rx ry h hs
  obtain ⟨p, xs, i, z, rfl, rfl, hq, he, q⟩ := h
  cases rx
  obtain ⟨t, rfl⟩ := ry
  obtain ⟨its, r, pl, hz⟩ := I.list hq
  obtain ⟨j, h1, h2, h3, h4, h5⟩ := atI_get he
  obtain ⟨w, ew, rw'⟩ := r.get h2
  have hl := r.length
  have hn := line63
  have fin : EP X pins σ Q w s := ⟨z, H, I, rw', q⟩
  by_cases h0 : 0 ≤ i
  · have hj : i.toNat = j := by
      rw [seqIndex_of h0 h5] at h1
      exact Option.some.inj h1
    exact item_listR pl.isList h0 (by omega) (by rw [hj]; simpa using ew) fin hs
  · have hj : (i + (its.toArray.size : Int)).toNat = j := by
      rw [seqIndex_neg (by omega) h4] at h1
      rw [List.size_toArray, ← hl]
      exact Option.some.inj h1
    exact subscriptTail_builtinR (x := w) pl.isList.typeIs slot_list_getitem.lookup
      (wpAny_getItem_list_neg (Q := fun r s' => r = w ∧ EP X pins σ Q r s') pl.isList (by omega) (by rw [List.size_toArray] <;> omega) (by omega) (by rw [hj]; simpa using ew) ⟨rfl, fin⟩) hs
theorem ix_tup : IxR X (rIxT X.K) := by
  intro value slice pins s σ H x y v u Q I rx ry h hs
  obtain ⟨p, xs, i, z, rfl, rfl, hq, he, q⟩ := h
  cases rx
  obtain ⟨t, rfl⟩ := ry
  obtain ⟨its, r, pl, hz⟩ := I.tuple hq
  obtain ⟨j, h1, h2, h3, h4, h5⟩ := atI_get he
  obtain ⟨w, ew, rw'⟩ := r.get h2
  have hl := r.length
  have hn := line63
  have fin : EP X pins σ Q w s := ⟨z, H, I, rw', q⟩
  exact subscriptTail_builtinR (x := w) pl.typeIs slot_tuple_getitem.lookup
    (getItem_tuple (j := j) (Q := fun r s' => r = w ∧ EP X pins σ Q r s') pl (by omega) (by omega) (by rw [List.size_toArray, ← hl]; exact h1) (by simpa using ew) ⟨rfl, fin⟩) hs
theorem mapSeq_set (its : List Value) (n j : Nat) (u : Value) : Obj.mapSeq (·.setIfInBounds j u) { cls := .type "list", data := .seq its.toArray n } = { cls := .type "list", data := .seq (its.set j u).toArray n } := by
  simp [Obj.mapSeq]
theorem Inv.lst {pins : List (Addr × Obj)} {σ : St} {H : Hp} {s : Shared} {p : Addr} {xs : List V} (I : Inv X pins σ H s) (h : H p = some (.lst xs)) :
    ∃ (its : List Value) (n : Nat), Vals xs its ∧ s.heap.get? p = some { cls := .type "list", data := .seq its.toArray n } ∧ xs.length ≤ sizeLine := by
  obtain ⟨z, its, n, r, e⟩ := I.hok p _ h
  exact ⟨its, n, r, e, z⟩
theorem Inv.lstUpd {pins : List (Addr × Obj)} {σ : St} {H : Hp} {s : Shared} {p : Addr} {xs ys : List V} {its its' : List Value} {n n' : Nat} {f : Obj → Obj} (I : Inv X pins σ H s) (h : H p = some (.lst xs))
    (ho : s.heap.get? p = some { cls := .type "list", data := .seq its.toArray n }) (hf : f { cls := .type "list", data := .seq its.toArray n } = { cls := .type "list", data := .seq its'.toArray n' }) (r : Vals ys its') (hz : ys.length ≤ sizeLine) (t : Nat) :
    Inv X pins σ (upd H p (.lst ys)) { s with heap := s.heap.update p f, toks := t } := by
  have e : (s.heap.update p f).get? p = some { cls := .type "list", data := .seq its'.toArray n' } := by
    rw [Heap.get?_update_self f ho (by rw [hf] <;> rfl), hf]
  refine I.write (x := p) (e := p) (by rw [h]; trivial) (.inl rfl) (fun b u hb q => (Heap.get?_update_other _ _ (Ne.symm hb)).trans q) ⟨_, e⟩ ?_
  exact ⟨hz, its', n', r, e⟩
def rSetL : V → V → V → Hp → (Hp → Prop) → Prop := fun o i v H Q => ∃ p xs k j, o = .ref p ∧ i = .int k ∧ H p = some (.lst xs) ∧ ixN xs.length k = some j ∧ Q (upd H p (.lst (xs.set j v)))
theorem set_list : PSet X rSetL := by
  intro pins s σ H o i v ov iv u Q I ro ri rv h
  obtain ⟨p, xs, k, j, rfl, rfl, hp, hj, q⟩ := h
  cases ro
  obtain ⟨t, rfl⟩ := ri
  obtain ⟨its, n, r, ho, hz⟩ := I.lst hp
  obtain ⟨h1, h2, h3, h4⟩ := ixN_seq hj
  have hl := r.length
  have hn := line63
  have I' : Inv X pins σ (upd H p (.lst (xs.set j v))) { s with heap := s.heap.update p (Obj.mapSeq (·.setIfInBounds j u)) } :=
    I.lstUpd hp ho (mapSeq_set its n j u) (r.set rv j) (by rw [List.length_set]; exact hz) s.toks
  by_cases h0 : 0 ≤ k
  · have hk : k.toNat = j := by
      rw [seqIndex_of h0 h4] at h1
      exact Option.some.inj h1
    exact PySem.W.ki_setAt ho h0 (by omega) (by rw [List.size_toArray, ← hl]; exact h4) (by rw [hk]; exact ⟨_, I', q⟩)
  · have hk : (k + (its.toArray.size : Int)).toNat = j := by
      rw [seqIndex_neg (by omega) h3] at h1
      rw [List.size_toArray, ← hl]
      exact Option.some.inj h1
    exact PySem.W.ki_setBack ho (by omega) (by rw [List.size_toArray, ← hl]; exact h3) (by omega) (by rw [hk]; exact ⟨_, I', q⟩)
def flatV : V → Bool
  | .non => true
  | .bl _ => true
  | .int _ => true
  | .str _ => true
  | _ => false
def eqV : V → V → Bool
  | .non, .non => true
  | .bl a, .bl b => a == b
  | .bl a, .int b => (if a then 1 else 0) == b
  | .int a, .bl b => a == (if b then 1 else 0)
  | .int a, .int b => a == b
  | .str a, .str b => a == b
  | _, _ => false
theorem eqAt_V {A : Around} {s : Shared} {y x : V} {u v : Value} (ry : RelV y u) (rx : RelV x v) (fy : flatV y = true) (fx : flatV x = true) : SeqAt.EqAt A s u v (eqV y x) := by
  cases y with
  | non =>
    cases ry
    cases x with
    | non => cases rx; exact SeqAt.EqAt.same _
    | bl b => cases rx; exact SeqAt.EqAt.none_bool b
    | int b => obtain ⟨t, rfl⟩ := rx; exact SeqAt.EqAt.none_int b t
    | str b => obtain ⟨t, rfl⟩ := rx; exact SeqAt.EqAt.none_str b t
    | _ => exact absurd (show false = true from fx) Bool.false_ne_true
  | bl a =>
    cases ry
    cases x with
    | non => cases rx; exact SeqAt.EqAt.bool_none a
    | bl b => cases rx; exact SeqAt.EqAt.bool_bool a b
    | int b => obtain ⟨t, rfl⟩ := rx; exact SeqAt.EqAt.bool_int a b t
    | str b => obtain ⟨t, rfl⟩ := rx; exact SeqAt.EqAt.bool_str a b t
    | _ => exact absurd (show false = true from fx) Bool.false_ne_true
  | int a =>
    obtain ⟨t', rfl⟩ := ry
    cases x with
    | non => cases rx; exact SeqAt.EqAt.int_none a t'
    | bl b => cases rx; exact SeqAt.EqAt.int_bool a t' b
    | int b => obtain ⟨t, rfl⟩ := rx; exact SeqAt.EqAt.int_int a t' b t
    | str b => obtain ⟨t, rfl⟩ := rx; exact SeqAt.EqAt.int_str a t' b t
    | _ => exact absurd (show false = true from fx) Bool.false_ne_true
  | str a =>
    obtain ⟨t', rfl⟩ := ry
    cases x with
    | non => cases rx; exact SeqAt.EqAt.str_none a t'
    | bl b => cases rx; exact SeqAt.EqAt.str_bool a t' b
    | int b => obtain ⟨t, rfl⟩ := rx; exact SeqAt.EqAt.str_int a t' b t
    | str b => obtain ⟨t, rfl⟩ := rx; exact SeqAt.EqAt.str_str a t' b t
    | _ => exact absurd (show false = true from fx) Bool.false_ne_true
  | _ => exact absurd (show false = true from fy) Bool.false_ne_true
def eqU (x : V) (u : Value) : Bool := match u with
  | .none => eqV .non x
  | .bool b => eqV (.bl b) x
  | .int i _ => eqV (.int i) x
  | .str z _ => eqV (.str z) x
  | _ => false
theorem eqU_of {x y : V} {u : Value} (r : RelV y u) (f : flatV y = true) : eqU x u = eqV y x := by
  cases y with
  | non => cases r; rfl
  | bl b => cases r; rfl
  | int i => obtain ⟨t, rfl⟩ := r; rfl
  | str z => obtain ⟨t, rfl⟩ := r; rfl
  | _ => exact absurd (show false = true from f) Bool.false_ne_true
theorem any_eqU {x : V} : ∀ {xs : List V} {us : List Value}, Vals xs us → xs.all flatV = true → us.any (eqU x) = xs.any fun y => eqV y x
  | _, _, .nil, _ => rfl
  | y :: xs, u :: us, .cons r t, f => by
    rw [List.all_cons, Bool.and_eq_true] at f
    rw [List.any_cons, List.any_cons, eqU_of r f.1, any_eqU t f.2]
theorem mem_eqAt {A : Around} {s : Shared} {x : V} {v : Value} (rx : RelV x v) (fx : flatV x = true) : ∀ {xs : List V} {us : List Value}, Vals xs us → xs.all flatV = true → ∀ u ∈ us, SeqAt.EqAt A s u v (eqU x u)
  | _, _, .nil, _ => fun u hu => by cases hu
  | y :: xs, u :: us, .cons r t, f => fun u' hu => by
    rw [List.all_cons, Bool.and_eq_true] at f
    rcases List.mem_cons.mp hu with rfl | hu
    · rw [eqU_of r f.1]; exact eqAt_V r rx f.1 fx
    · exact mem_eqAt rx fx t f.2 u' hu
def inV (x : V) (xs : List V) : Bool := xs.any fun y => eqV y x
def rIn (K : PySem.W.Frag) (neg : Bool) : R2 := fun x y H Q => ∃ p xs, y = .ref p ∧ (SqL K H p xs ∨ SqT K H p xs) ∧ flatV x = true ∧ xs.all flatV = true ∧ Q (.bl (if neg then !inV x xs else inV x xs)) H
theorem op_in_seq : OpR X (compareOp .In) (rIn X.K false) := by
  intro pins s σ H x y v u Q I rx ry h
  obtain ⟨p, xs, rfl, hq, fx, fs, q⟩ := h
  cases ry
  rcases hq with hq | hq
  · obtain ⟨its, r, pl, hz⟩ := I.list hq
    refine SeqAt.in_listAt (eqU x) pl.isList (fun w hw => mem_eqAt rx fx r fs w (by simpa using hw)) ⟨.bl _, H, I, rfl, ?_⟩
    rw [show its.toArray.any (eqU x) = its.any (eqU x) by simp, any_eqU r fs]
    exact q
  · obtain ⟨its, r, pl, hz⟩ := I.tuple hq
    refine SeqAt.in_tupleAt (eqU x) pl (fun w hw => mem_eqAt rx fx r fs w (by simpa using hw)) ⟨.bl _, H, I, rfl, ?_⟩
    rw [show its.toArray.any (eqU x) = its.any (eqU x) by simp, any_eqU r fs]
    exact q
theorem op_notIn_seq : OpR X (compareOp .NotIn) (rIn X.K true) := by
  intro pins s σ H x y v u Q I rx ry h
  obtain ⟨p, xs, rfl, hq, fx, fs, q⟩ := h
  cases ry
  rcases hq with hq | hq
  · obtain ⟨its, r, pl, hz⟩ := I.list hq
    refine SeqAt.notIn_listAt (eqU x) pl.isList (fun w hw => mem_eqAt rx fx r fs w (by simpa using hw)) ⟨.bl _, H, I, rfl, ?_⟩
    rw [show its.toArray.any (eqU x) = its.any (eqU x) by simp, any_eqU r fs]
    exact q
  · obtain ⟨its, r, pl, hz⟩ := I.tuple hq
    refine SeqAt.notIn_tupleAt (eqU x) pl (fun w hw => mem_eqAt rx fx r fs w (by simpa using hw)) ⟨.bl _, H, I, rfl, ?_⟩
    rw [show its.toArray.any (eqU x) = its.any (eqU x) by simp, any_eqU r fs]
    exact q
theorem call_len_seq : CallR X (.builtin "len") (fun xs H Q => ∃ p ys, xs = [.ref p] ∧ (SqL X.K H p ys ∨ SqT X.K H p ys) ∧ Q (.int ys.length) H) := by
  intro pins s σ H xs us Q I r h
  obtain ⟨p, ys, rfl, hq, q⟩ := h
  obtain ⟨u, rfl, rx⟩ := vals1 r
  cases rx
  have hn := line63
  rcases hq with hq | hq
  · obtain ⟨its, r', pl, hz⟩ := I.list hq
    have hlen := r'.length
    exact Calls.call_len_list pl.isList (by simp only [List.size_toArray] <;> omega) ⟨.int ys.length, H, I.tok _, ⟨s.toks + 1, by rw [List.size_toArray, hlen]⟩, q⟩
  · obtain ⟨its, r', pl, hz⟩ := I.tuple hq
    have hlen := r'.length
    exact len_tuple pl (by simp only [List.size_toArray] <;> omega) ⟨.int ys.length, H, I.tok _, ⟨s.toks + 1, by rw [List.size_toArray, hlen]⟩, q⟩
theorem call_list_of : CallR X (.type "list") (fun xs H Q => ∃ p ys, xs = [.ref p] ∧ (SqL X.K H p ys ∨ SqT X.K H p ys) ∧ ∀ l, H l = none → Q (.ref l) (upd H l (.lst ys))) := by
  intro pins s σ H xs us Q I r h
  obtain ⟨p, ys, rfl, hq, q⟩ := h
  obtain ⟨u, rfl, rx⟩ := vals1 r
  cases rx
  have fin : ∀ (its : List Value), Vals ys its → ys.length ≤ sizeLine → ∀ (h' : Heap) (c' : Nat), (∀ b o', s.heap.get? b = some o' → h'.get? b = some o') →
      h'.get? s.heap.objs.size = some { cls := .type "list", dict := none, data := .seq its.toArray c', slots := #[] } → EP X pins σ Q (.ref s.heap.objs.size) { s with heap := h' } := fun its r' hz h' c' kp e =>
    ⟨.ref s.heap.objs.size, _, I.laid (t' := s.toks) kp (Nat.le_refl _) (show ObjOk X.prog X.w _ h' _ (.lst ys) from ⟨hz, its, c', r', e⟩), rfl, q _ (I.hok.fresh (Nat.le_refl _))⟩
  rcases hq with hq | hq
  · obtain ⟨its, r', pl, hz⟩ := I.list hq
    have hlen := r'.length
    obtain ⟨o, ho, hc, n, hd⟩ := pl.isList
    exact call_list_seq p (.inl rfl) ho hc hd (fun h' c' kp e => fin its r' hz h' c' kp e) (by simp only [List.size_toArray] <;> omega)
  · obtain ⟨its, r', pl, hz⟩ := I.tuple hq
    have hlen := r'.length
    obtain ⟨o, ho, hc, n, hd⟩ := pl
    exact call_list_seq p (.inr rfl) ho hc hd (fun h' c' kp e => fin its r' hz h' c' kp e) (by simp only [List.size_toArray] <;> omega)
theorem call_tuple_of : CallR X (.type "tuple") (fun xs H Q => ∃ p ys, xs = [.ref p] ∧ ((SqL X.K H p ys ∧ ∀ l, H l = none → Q (.ref l) (upd H l (.tup ys))) ∨ (SqT X.K H p ys ∧ Q (.ref p) H))) := by
  intro pins s σ H xs us Q I r h
  obtain ⟨p, ys, rfl, h⟩ := h
  obtain ⟨u, rfl, rx⟩ := vals1 r
  cases rx
  rcases h with ⟨hq, q⟩ | ⟨hq, q⟩
  · obtain ⟨its, r', pl, hz⟩ := I.list hq
    have hlen := r'.length
    refine call_tuple_list pl.isList (fun h' kp => ?_) (by simp only [List.size_toArray] <;> omega)
    have I1 : Inv X pins σ H { s with heap := h' } := I.kept (t' := s.toks) kp
    have I2 : Inv X pins σ (upd H h'.objs.size (.tup ys)) { s with heap := h'.push { cls := .type "tuple", data := .seq its.toArray } } :=
      I1.laid (t' := s.toks) (fun b o e => Heap.get?_push_of_some _ e) (Nat.le_refl _) (show ObjOk X.prog X.w _ _ _ (.tup ys) from ⟨hz, its, r', TupX.new _ _⟩)
    exact ⟨.ref h'.objs.size, _, I2, rfl, q _ (I1.hok.fresh (Nat.le_refl _))⟩
  · obtain ⟨its, r', pl, hz⟩ := I.tuple hq
    exact call_tuple_same pl ⟨.ref p, H, I, rfl, q⟩
def tyV (K : PySem.W.Frag) (T : String) (x : V) (H : Hp) : Prop := match x with
  | .str _ => T = "str"
  | .int _ => T = "int"
  | .ref p => (T = "list" ∧ ∃ xs, SqL K H p xs) ∨ (T = "tuple" ∧ ∃ o, K.lookup p = some o ∧ o.cls = .type "tuple" ∧ o.dict = none) ∨
      (T = "dict" ∧ ((∃ kvs, H p = some (.dK kvs)) ∨ ∃ kvs, H p = some (.dT kvs))) ∨ (T = "set" ∧ ∃ S n, H p = some (.set S n))
  | _ => False
theorem tyV_is {pins : List (Addr × Obj)} {σ : St} {H : Hp} {s : Shared} {T : String} {x : V} {v : Value} (I : Inv X pins σ H s) (r : RelV x v) (ty : tyV X.K T x H) :
    s.TypeIs v T ∧ ∀ a, v = .ref a → ∃ ob, s.heap.get? a = some ob ∧ ob.dict = none := by
  cases x with
  | str z =>
    obtain ⟨t, rfl⟩ := r
    cases (show T = "str" from ty)
    exact ⟨typeIs_str s z t, fun _ e => nomatch e⟩
  | int i =>
    obtain ⟨t, rfl⟩ := r
    cases (show T = "int" from ty)
    exact ⟨typeIs_int s i t, fun _ e => nomatch e⟩
  | ref p =>
    cases r
    rcases ty with ⟨rfl, xs, hq⟩ | ⟨rfl, o, hk, hc, hd⟩ | ⟨rfl, hk⟩ | ⟨rfl, S, n, hk⟩
    · obtain ⟨its, _, pl, _⟩ := I.list hq
      refine ⟨pl.isList.typeIs, fun a e => ?_⟩
      cases e
      obtain ⟨o, n, e, c, hd, _⟩ := pl
      exact ⟨o, e, hd⟩
    · refine ⟨⟨o, I.kIn p o hk, hc⟩, fun a e => ?_⟩
      cases e
      exact ⟨o, I.kIn _ o hk, hd⟩
    · have z : ∃ o, s.heap.get? p = some o ∧ o.ExactDict := by
        rcases hk with ⟨kvs, hk⟩ | ⟨kvs, hk⟩
        · obtain ⟨_, _, _, _, o, _, _, e, ex, _⟩ := I.hok p _ hk
          exact ⟨o, e, ex⟩
        · obtain ⟨_, _, _, _, o, _, _, e, ex, _⟩ := I.hok p _ hk
          exact ⟨o, e, ex⟩
      obtain ⟨o, e, ex⟩ := z
      refine ⟨⟨o, e, ex.1⟩, fun a e2 => ?_⟩
      cases e2
      exact ⟨o, e, ex.2.1⟩
    · obtain ⟨o, _, _, _, e, ex, _⟩ := I.hok p _ hk
      refine ⟨⟨o, e, ex.1⟩, fun a e2 => ?_⟩
      cases e2
      exact ⟨o, e, ex.2.1⟩
  | _ => exact False.elim ty
def tBM (K : PySem.W.Frag) (T : String) (r : V → List V → Hp → VK → Prop) (to : TE) (t : TA) : TE := fun σ H Q => to σ H fun x H1 => tyV K T x H1 ∧ t σ H1 fun xs H2 => r x xs H2 Q
variable {o e : Expr} {es : List Expr} {to : TE} {t : TA} {name : Str} {apos cpos : Pos} {T id : String} {r : V → List V → Hp → VK → Prop}
theorem pe_bm (pa : PlainAttrs T) (slot : Slot T name id) (hty : typeOf (.builtin id) = pure (.type "method_descriptor")) (hm : MtR X id r) (ho : PE X o to) (ha : PA X (e :: es) t)
    (hbase : attributeBase o name X.env (eval o X.env) = eval o X.env := by rfl)
    (hfew : ((backTo cpos (starEach (e :: es) X.env)).all (fun x => !x.1) && (backToKw cpos (keywordEach [] X.env)).all (fun x => x.1.isSome)
      && decide ((e :: es).length + ([] : List Keyword).length + (if ([] : List Keyword).isEmpty then 0 else 1) < 30)) = true := by rfl)
    (hline : (apos.endLine == cpos.line) = true := by rfl) (hs : starEach (e :: es) X.env = (false, eval e X.env) :: starEach es X.env := by rfl) (hplain : (backTo cpos (starEach es X.env)).any (·.1) = false := by rfl) :
    PE X (.Call (.Attribute o name apos) (e :: es) [] cpos) (tBM X.K T r to t) := by
  intro pins s σ H Q I h
  refine wpAny_Call_method_late hbase hfew hline rfl (thn (ho pins s σ H _ I h) fun v s1 ⟨x, H1, I1, r1, ty, q1⟩ => ?_)
  obtain ⟨h1, h2⟩ := tyV_is I1 r1 ty
  refine ⟨T, id, pa, slot, hty, h1, h2, ?_⟩
  have hA := ha cpos pins s1 σ H1 _ I1 q1
  rw [hs] at hA ⊢
  refine Calls.callWith_builtin (by show (false || (backTo cpos (starEach es X.env)).any (·.1)) = false; rw [hplain] <;> rfl) (Calls.evalArgs_plain ?_)
  exact thn hA fun us s2 ⟨vs, H2, I2, r2, q2⟩ => hm pins s2 σ H2 x vs v us Q I2 r1 r2 q2
/- xs.append(e), list.index on a module's tuple .. are MtR facts of 06m -/
end
end L2

namespace L2
open PySem PySem.Spec PyProof.Rows

def MtM (X : Cx) (id : String) (r : V → List V → Hp → VK → Prop) : Prop :=
  ∀ (pins : List (Addr × Obj)) (s : Shared) (σ : St) (H : Hp) (x : V) (xs : List V) (v : Value) (us : List Value) (Q : VK), Inv X pins σ H s → RelV x v → Vals xs us → r x xs H Q →
    wpAny (model X.prog X.w) X.A (call (.builtin id) (v :: us)) (EP X pins σ Q) X.xe s
theorem Vals.one : ∀ {x : V} {us : List Value}, Vals [x] us → ∃ u, us = [u] ∧ RelV x u
  | _, _, .cons r .nil => ⟨_, rfl, r⟩
theorem Vals.two : ∀ {x y : V} {us : List Value}, Vals [x, y] us → ∃ u v, us = [u, v] ∧ RelV x u ∧ RelV y v
  | _, _, _, .cons r (.cons q .nil) => ⟨_, _, rfl, r, q⟩
theorem Vals.eraseIdx : ∀ {xs : List V} {us : List Value} (i : Nat), Vals xs us → Vals (xs.eraseIdx i) (us.eraseIdx i)
  | _, _, _, .nil => .nil
  | _, _, 0, .cons _ t => t
  | _, _, i + 1, .cons r t => .cons r (Vals.eraseIdx i t)
theorem Vals.rep {xs : List V} {us : List Value} (h : Vals xs us) : ∀ k : Nat, Vals (List.replicate k xs).flatten (List.replicate k us).flatten
  | 0 => .nil
  | k + 1 => by
    rw [List.replicate_succ, List.replicate_succ, List.flatten_cons, List.flatten_cons]
    exact Vals.append h (Vals.rep h k)
theorem len_erase {α : Type} : ∀ (l : List α) (i : Nat), (l.eraseIdx i).length ≤ l.length
  | [], _ => Nat.le_refl _
  | _ :: _, 0 => Nat.le_succ _
  | _ :: r, i + 1 => Nat.succ_le_succ (len_erase r i)
theorem foldl_rep (its : List Value) : ∀ (k : Nat) (acc : List Value),
    List.foldl (fun x1 x2 => x1 ++ x2) acc.toArray (List.replicate k its.toArray) = (acc ++ (List.replicate k its).flatten).toArray
  | 0, acc => by simp
  | k + 1, acc => by
    have e : acc.toArray ++ its.toArray = (acc ++ its).toArray := by simp
    have e2 : (acc ++ its) ++ (List.replicate k its).flatten = acc ++ (List.replicate (k + 1) its).flatten := by
      rw [List.replicate_succ, List.flatten_cons, List.append_assoc]
    rw [← e2, ← foldl_rep its k (acc ++ its), ← e, List.replicate_succ, List.foldl_cons]

section
variable {X : Cx} {pins : List (Addr × Obj)} {σ : St} {H : Hp} {s : Shared} {l b : Addr} {xs ys zs : List V}
theorem Inv.lset {its its' : List Value} {n : Nat} {f : Array Value → Array Value} {t' : Nat} (I : Inv X pins σ H s) (hH : H l = some (.lst xs))
    (e : s.heap.get? l = some { cls := .type "list", data := .seq its.toArray n }) (hf : f its.toArray = its'.toArray) (hv : Vals ys its') (hz : ys.length ≤ sizeLine) :
    Inv X pins σ (upd H l (.lst ys)) { s with heap := s.heap.update l (Obj.mapSeq f), toks := t' } := by
  have q := PySem.IsL.update e f
  rw [hf] at q
  refine I.write (x := l) (e := l) (by rw [hH]; exact trivial) (.inl rfl) (fun b' u hb hu => (Heap.get?_update_other s.heap (Obj.mapSeq f) (Ne.symm hb)).trans hu) ⟨_, q⟩ ?_
  exact ⟨hz, its', _, hv, q⟩
theorem Inv.lnew {its : List Value} {t' : Nat} (I : Inv X pins σ H s) (hv : Vals ys its) (hz : ys.length ≤ sizeLine) :
    Inv X pins σ (upd H s.heap.objs.size (.lst ys)) { s with heap := s.heap.push { cls := .type "list", data := .seq its.toArray }, toks := t' } :=
  I.laid (fun _ _ q => Heap.get?_push_of_some _ q) (Nat.le_refl _) ⟨hz, its, 0, hv, Heap.get?_push_size _ rfl⟩
theorem Inv.fresh (I : Inv X pins σ H s) : H s.heap.objs.size = none := I.hok.fresh (Nat.le_refl _)
theorem Inv.lstM (I : Inv X pins σ H s) (hH : H l = some (.lst xs)) : xs.length ≤ sizeLine ∧ ∃ (its : List Value) (n : Nat), Vals xs its ∧ xs.length = its.length ∧ s.heap.get? l = some { cls := .type "list", data := .seq its.toArray n } := by
  obtain ⟨z, its, n, r, e⟩ := I.hok l _ hH
  exact ⟨z, its, n, r, r.length, e⟩

theorem notLongL {n : Nat} (h : n ≤ sizeLine) : Builtin.List.listTooLong n = false := by
  unfold Builtin.List.listTooLong
  exact decide_eq_false (by omega)
end

section
variable {X : Cx}
def rAppend : V → List V → Hp → VK → Prop := fun x vs H Q => ∃ l xs y, x = .ref l ∧ vs = [y] ∧ H l = some (.lst xs) ∧ xs.length < sizeLine ∧ Q .non (upd H l (.lst (xs ++ [y])))
theorem mt_append : MtM X "list.append" rAppend := by
  intro pins s σ H x vs v us Q I rx rv h
  obtain ⟨l, xs, y, rfl, rfl, hH, hz, q⟩ := h
  cases rx
  obtain ⟨u, rfl, ru⟩ := rv.one
  obtain ⟨z, its, n, r, hl, e⟩ := I.lstM hH
  refine call_meets F.slot_list_append ⟨_, e, rfl⟩ F.entry_list_append (F.args_list_append_2 _ _) (PySem.list_append l its.toArray n u (by rw [List.size_toArray]; omega)) ⟨e, ?_⟩
  refine ⟨.non, _, I.lset (its' := its ++ [u]) hH e (by simp) (r.append (.cons ru .nil)) ?_, rfl, q⟩
  rw [List.length_append, List.length_singleton]
  omega

def rPopAt : V → List V → Hp → VK → Prop := fun x vs H Q => ∃ l xs i k y, x = .ref l ∧ vs = [.int i] ∧ H l = some (.lst xs) ∧ -(2 ^ 63) ≤ i ∧ i < 2 ^ 63 ∧ seqIndex? i xs.length = some k ∧ xs[k]? = some y ∧ Q y (upd H l (.lst (xs.eraseIdx k)))
theorem mt_popAt : MtM X "list.pop" rPopAt := by
  intro pins s σ H x vs v us Q I rx rv h
  obtain ⟨l, xs, i, k, y, rfl, rfl, hH, h1, h2, hk, hy, q⟩ := h
  cases rx
  obtain ⟨u, rfl, ru⟩ := rv.one
  obtain ⟨t, rfl⟩ := ru
  obtain ⟨z, its, n, r, hl, e⟩ := I.lstM hH
  obtain ⟨w, hw, rw'⟩ := r.get hy
  refine call_meets F.slot_list_pop ⟨_, e, rfl⟩ F.entry_list_pop (F.args_list_pop_2 _ _)
    (MeetsSeq.list_pop_at l its.toArray n i t k w (fitsIndex_both h1 h2) (by rw [List.size_toArray, ← hl]; exact hk) (by rw [← Array.getElem?_toList]; exact hw) (by rw [List.size_toArray]; omega)) ⟨e, ?_⟩
  refine ⟨y, _, I.lset (its' := its.eraseIdx k) hH e ?_ (r.eraseIdx k) ?_, rw', q⟩
  · show its.toArray.eraseIdxIfInBounds k = (its.eraseIdx k).toArray
    rw [List.eraseIdxIfInBounds_toArray]
  · have := len_erase xs k
    omega
def rRep : R2 := fun x y H Q => ∃ l k xs, x = .ref l ∧ y = .int k ∧ H l = some (.lst xs) ∧ -(2 ^ 63) ≤ k ∧ k < 2 ^ 63 ∧ xs.length * k.toNat ≤ sizeLine ∧
  ∀ p, H p = none → Q (.ref p) (upd H p (.lst (List.replicate k.toNat xs).flatten))
theorem len_rep {α : Type} (xs : List α) (k : Nat) : (List.replicate k xs).flatten.length = k * xs.length := by
  induction k with
  | zero => simp
  | succ k ih => rw [List.replicate_succ, List.flatten_cons, List.length_append, ih, Nat.succ_mul, Nat.add_comm]
theorem op_rep : OpR X (binaryOp .Mult) rRep := by
  intro pins s σ H x y v u Q I rx ry h
  obtain ⟨l, k, xs, rfl, rfl, hH, h1, h2, hz, q⟩ := h
  cases rx
  obtain ⟨t, rfl⟩ := ry
  obtain ⟨z, its, n, r, hl, e⟩ := I.lstM hH
  have hlen : its.toArray.size * k.toNat ≤ sizeLine := by rw [List.size_toArray, ← hl]; exact hz
  have hcap : ¬ its.toArray.size * k.toNat > (2 ^ 63 - 1) / 8 := by
    have : (sizeLine : Nat) ≤ (2 ^ 63 - 1) / 8 := by decide
    omega
  have hfit : ¬ (!Builtin.List.listFitsIndex k) = true := by
    rw [fitsIndex_both h1 h2]
    exact Bool.false_ne_true
  have hlong : ¬ Builtin.List.listTooLong (its.toArray.size * k.toNat) = true := by
    rw [notLongL hlen]
    exact Bool.false_ne_true
  have hnew : List.foldl (fun x1 x2 => x1 ++ x2) #[] (List.replicate (if its.toArray.isEmpty = true then 0 else k.toNat) its.toArray) = (List.replicate k.toNat its).flatten.toArray := by
    have f0 : ∀ m : Nat, List.foldl (fun x1 x2 => x1 ++ x2) #[] (List.replicate m its.toArray) = (List.replicate m its).flatten.toArray := fun m => by
      have := foldl_rep its m []
      rw [List.nil_append] at this
      exact this
    rw [f0]
    cases its with
    | nil => simp
    | cons a r' => rw [if_neg (by simp)]
  refine wpAny_binaryOp_repeat_ref (T := "list") (U := "int") (by decide) ⟨_, e, rfl⟩ (fun s' => typeIs_int s' k t) noFill_list_mul F.fills_int_mul F.slot_int_rmul repeat_list F.slot_int_index.lookup
    (call_meets F.slot_int_rmul (typeIs_int s k t) F.entry_int_rmul (F.args_int_rmul_2 _ _) (int___rmul___int_list k t l its.toArray n)
      ⟨e, rfl, ⟨_, e, rfl⟩, call_meets F.slot_list_mul ⟨_, e, rfl⟩ F.entry_list_mul (F.args_list_mul_2 _ _) (AutoListH.list___mul___list_int_3 l its.toArray n k t hfit hcap hlong) ⟨e, ?_⟩⟩)
  rw [hnew]
  exact ⟨.ref _, _, I.lnew (t' := s.toks) (r.rep k.toNat) (by rw [len_rep, Nat.mul_comm]; exact hz), rfl, q _ I.fresh⟩
end
section
variable {prog : Program} {w : World} {A : Around} {E : Value → Shared → Prop} {s : Shared}
end

section
variable {X : Cx}
end
end L2

namespace Att
open PySem PySem.W PySem.Calls PyProof.Rows
theorem ints_of_wellAll {P : Params} {h : Heap} : ∀ (ns : List Int) (vs : List Value), WellAll P h vs (ns.map WData.int) → IntsAre vs ns := by
  intro ns
  induction ns with
  | nil =>
    intro vs w
    rw [List.map_nil] at w
    cases w
    exact .nil
  | cons n ns ih =>
    intro vs w
    rw [List.map_cons] at w
    cases w with
    | cons a b =>
      cases a
      exact .cons _ _ (ih _ b)

theorem script_of {l : OpenLaw} {n : Nat} (hn : l.most = some n) {P : Params} {h : Heap} {args : List WData} {vals : List Value}
    (hpre : l.row.toRowW.claim.pre args = true) (hwl : WellAll P h vals args) :
    ∃ a vs ns, vals = [Value.ref a] ∧ args = [WData.list (ns.map WData.int)] ∧ h.get? a = some { cls := .type "list", data := .seq vs.toArray } ∧ IntsAre vs ns ∧ ns.length ≤ n := by
  have hsh : WShape.hasAll [] args [.list .int] = true := (pre_splitW hpre).1
  have hc : l.pre.holds [] { args := args } = true := (pre_splitW hpre).2
  obtain ⟨d, r, rfl, h1, h2⟩ := hasAllW_cons hsh
  obtain rfl := hasAllW_nil h2
  obtain ⟨xs, rfl, h3⟩ := hasW_list h1
  obtain ⟨ns, rfl⟩ := items_int h3
  have hlen : ns.length ≤ n := by
    unfold OpenLaw.pre at hc
    have h4 : (WTm.not (.lt (.lit (.int (n : Int))) (.len (.arg 0)))).holds [] { args := [.list (ns.map .int)] } = true := by
      have h4 := (holds_andW hc).1
      rw [hn] at h4
      exact h4
    have h5 := condW_of h4 (w_not (w_lt w_lit (w_len_list (w_arg rfl))))
    rw [List.length_map] at h5
    refine Nat.le_of_not_lt fun q => ?_
    have q' : (n : Int) < ((ns.length : Nat) : Int) := by omega
    first
      | (rw [decide_eq_true q'] at h5; exact absurd h5 (by decide))
      | (simp at h5; omega)
  cases hwl with
  | cons w1 w2 =>
    cases w2
    cases w1 with
    | list ho hall => exact ⟨_, _, ns, rfl, rfl, ho, ints_of_wellAll ns _ hall, hlen⟩

theorem post_true (l : OpenLaw) (args : List WData) : l.row.toRowW.claim.post args (.bool true) args = true :=
  postW_of (r := l.row.toRowW) (X := (true == true))
    (show WShape.has [] (.bool true) .bool = true by first | rfl | decide | simp [WShape.has, WShape.arms, WShape.armsAll])
    (show (WTm.eq .res (.lit (.bool true))).value [] { args := args, res := some (.bool true), after := args } = some (.bool (true == true)) from w_eq_bool (w_res rfl) w_lit) rfl
theorem attach_call {l : OpenLaw} {n : Nat} {q : Program} {loose : List Str} {XP : (Str → Option Value) → Heap → Prop} {YP : World → Heap → Prop} {d : DefRec}
    (hn : l.most = some n) (hdf : d.params.defaults = [])
    (call : ∀ (w : World) (s₀ s₁ : Shared) (mg mb : Str → Option Value) (fa : Addr) (o : Obj) (pm cd doc : Value) (a : Addr) (vs : List Value) (ns : List Int),
      Ground q loose [] XP w s₀ mg mb s₁.heap → YP w s₁.heap →
      s₁.heap.get? fa = some o → o.data = .func (docDef d.name d.params d.body d.scope pm cd doc) → s₁.heap.CodeRec cd d.name → mg d.name = some (.ref fa) →
      s₁.heap.get? a = some { cls := .type "list", data := .seq vs.toArray } → IntsAre vs ns → ns.length ≤ n → s₁.gens = #[] →
      codeAny (model l.prog w) callerA (.call (.ref fa) ⟨[.ref a], []⟩) (fun r s' => r = .ok (.ret (.bool true)) ∧ OldK s₁.heap s'.heap ∧ s'.os = s₁.os ∧ AllBare s'.gens) s₁) :
    WalkO q loose XP YP l.row.toRowW d [] (fun f vs => PySem.call f vs) := by
  intro w s₀ s₁ mg mb G Y fa o pm cd doc dV kV ho hd hcd hD hmg hg args vals as hpre hlay hrd hwl hlo
  obtain rfl : dV = .none := Dflts.none hD hdf
  obtain rfl : kV = .none := Dflts.noKw hD
  obtain ⟨a, vs, ns, rfl, rfl, hobj, hints, hlen⟩ := script_of hn hpre hwl
  refine enter_call (codeAny_mono (call w s₀ s₁ mg mb fa o pm cd doc a vs ns G Y ho (fd_plain hd) hcd hmg hobj hints hlen hg) fun r s' hq => ?_)
  obtain ⟨rfl, h2, h3, h4⟩ := hq
  exact ⟨.inl ⟨.bool true, .bool true, [], rfl, fun _ => rfl, .bool true, post_true l _, fun _ => ⟨List.Pairwise.nil, fun _ hm => (nomatch hm)⟩⟩, h2, h3, h4⟩
section
variable {prog : Program} {w : World} {A : Around} {E : Value → Shared → Prop} {s : Shared} {K : Frag}
def ledger (h : Heap) (L d : Addr) : List (Addr × Obj) := (List.range h.objs.size).filterMap fun a => if a = L ∨ a = d then none else (h.get? a).map fun o => (a, o)
end
end Att

namespace L2
open PySem PySem.Spec PyProof.Rows

theorem vals_ints : ∀ {vs : List Value} {ns : List Int}, IntsAre vs ns → Vals (ns.map V.int) vs
  | _, _, .nil => .nil
  | _, _, .cons n t h => .cons ⟨t, rfl⟩ (vals_ints h)
def Only (H : Hp) : Prop := ∀ b, H b = none ∨ ∃ o xs, H b = some (.frz o (.lst xs))
theorem law_call {P : Program} {w : World} {K : PySem.W.Frag} {mg mb : Str → Option Value} {CX : CXT} {k : Nat} {fa a : Addr} {fd : FuncData} {x : Str} {sp : Sp} {s₁ : Shared} {vs : List Value} {ns : List Int}
    (KX : K.In s₁.heap) (hns : s₁.heap.Ns mainGlobals mg) (hb : s₁.heap.Ns builtinsNs mb) (hbb : ∀ x : Str, x ≠ "__name__" → mb x = bootBuiltins x) (hlim : s₁.heap.NoLimit) (hg : s₁.gens = #[])
    (ha : s₁.heap.get? a = some { cls := .type "list", data := .seq vs.toArray }) (hi : IntsAre vs ns) (hl : ns.length ≤ sizeLine) (hr : Room k callerA)
    (F : ∀ base : Heap, K.In base → base.Ns mainGlobals mg → FnOk P w K mg base CX k fa fd [x] sp) (hbind : ∀ (s : Shared) (u : Value), BindsTo s fd ⟨[u], []⟩ [(x, u)])
    (hsp : ∀ H : Hp, Only H → SqL K H a (ns.map V.int) → sp [.ref a] H (fun v _ => v = .bl true) fun _ _ _ => False)
    (hCX : ∀ H e s', CX [] H s₁ (fun _ _ _ => False) e s' → False) :
    codeAny (model P w) callerA (.call (.ref fa) ⟨[.ref a], []⟩) (fun r s' => r = .ok (.ret (.bool true)) ∧ OldK s₁.heap s'.heap ∧ s'.os = s₁.os ∧ AllBare s'.gens) s₁ := by
  have rv := vals_ints hi
  have lenV := hi.length
  have core : ∀ H : Hp, Only H → SqL K H a (ns.map V.int) → HOk P w H s₁.heap → (∀ b, H b ≠ none → b = a) → (H a ≠ none → K.lookup a = none) →
      codeAny (model P w) callerA (.call (.ref fa) ⟨[.ref a], []⟩) (fun r s' => r = .ok (.ret (.bool true)) ∧ OldK s₁.heap s'.heap ∧ s'.os = s₁.os ∧ AllBare s'.gens) s₁ := by
    intro H hO hS hok hA hK
    have base_of : ∀ {b : Addr} {o : Obj}, s₁.heap.get? b = some o → H b = none → (hidT s₁.heap H).get? b = some o := fun e n => hidT_get e n
    have noA : ∀ {b : Addr} {o : Obj} {es : Array DictEntry} {ep : Nat}, s₁.heap.get? b = some o → o.data = .dict es ep → H b = none := fun {b o es ep} e d => by
      cases q : H b with
      | none => rfl
      | some u =>
        have e' : b = a := hA b (by rw [q]; simp)
        subst e'
        rw [ha] at e; cases e
        have d' : Data.seq vs.toArray _ = Data.dict es ep := d
        cases d'
    have nsK : ∀ {b : Addr} {m : Str → Option Value}, s₁.heap.Ns b m → (hidT s₁.heap H).Ns b m := fun {b m} ⟨o, es, ep, e, d, r⟩ => ⟨o, es, ep, base_of e (noA e d), d, r⟩
    have hKb : K.In (hidT s₁.heap H) := fun b o e => base_of (KX b o e) (by
      cases q : H b with
      | none => rfl
      | some u =>
        have e' : b = a := hA b (by rw [q]; simp)
        subst e'
        rw [hK (by rw [q]; simp)] at e; cases e)
    have hM : Mod K mg (hidT s₁.heap H) := ⟨hKb, nsK hns, ⟨mb, nsK hb, hbb⟩, let ⟨mc, h1, h2⟩ := hlim; ⟨mc, nsK h1, h2⟩⟩
    have e0 : Env0 P w K mg (hidT s₁.heap H) callerA [] s₁ H := ⟨rfl, hM, fun b o e => of_hidT e, Nat.le_of_eq (hidT_size _ _), trivial, fun b hb => absurd (show b ∈ ([] : List Addr) from hb) (by simp), hok, .of_eq hg⟩
    refine codeAny_mono ((F _ hKb (nsK hns)).run callerA [] s₁ H ⟨[.ref a], []⟩ [.ref a] [.ref a] _ _ hr e0 (hbind s₁ (.ref a)) (.cons rfl .nil) (hsp H hO hS)) fun r s' h => ?_
    cases r with
    | error e => exact (hCX H e s' h).elim
    | ok fl =>
      cases fl with
      | next => exact False.elim h
      | brk => exact False.elim h
      | cont => exact False.elim h
      | ret u =>
        obtain ⟨v, H', os, bare, un, hok', r', q⟩ := h
        have q' : v = .bl true := q
        subst q'
        obtain rfl : u = Value.bool true := r'
        refine ⟨rfl, OldK.of_keep fun b o e => ?_, os, bare⟩
        cases q : H b with
        | none => exact un.keep b o e q (by intro z; exact absurd (show b ∈ ([] : List Addr) from z) (by simp)) (by simp)
        | some u =>
          rcases hO b with z | ⟨ob, xs, z⟩
          · rw [q] at z; cases z
          · have z2 := un.frzs b ob _ z
            obtain ⟨e1, _⟩ := hok b _ z
            obtain ⟨e2, _⟩ := hok' b _ z2
            rw [e] at e1; cases e1
            exact e2
  cases hk : K.lookup a with
  | some o =>
    have e := KX a o hk
    rw [ha] at e
    cases e
    refine core (fun _ => none) (fun _ => .inl rfl) (.inr ⟨_, vs.toArray, _, hk, rfl, rfl, rfl, by rw [List.size_toArray, lenV]; exact hl, by simpa using rv⟩) (fun b u z => by have z' : (none : Option HO) = some u := z; cases z') (fun b z => absurd rfl z) fun z => absurd rfl z
  | none =>
    refine core (fun b => if b = a then some (.frz { cls := .type "list", data := .seq vs.toArray } (.lst (ns.map V.int))) else none) (fun b => ?_) (.inl (.inr ⟨{ cls := .type "list", data := .seq vs.toArray }, if_pos rfl⟩)) (fun b u z => ?_) (fun b z => ?_) fun _ => hk
    · by_cases hb : b = a
      · exact .inr ⟨_, _, if_pos hb⟩
      · exact .inl (if_neg hb)
    · by_cases hb : b = a
      · have z' := (if_pos hb).symm.trans z
        cases z'
        subst hb
        exact ⟨ha, by rw [List.length_map]; exact hl, vs, _, rv, ha⟩
      · have z' := (if_neg hb).symm.trans z
        cases z'
    · by_cases hb : b = a
      · exact hb
      · exact absurd (if_neg hb) z
end L2

namespace L2
open PySem PySem.Spec PyProof.Rows

abbrev KOf {K : PySem.W.Frag} {h : Heap} (_ : K.In h) : PySem.W.Frag := K
theorem walk_of {l : PySem.W.OpenLaw} {n k : Nat} {q : Program} {loose : List Str} {XP : (Str → Option Value) → Heap → Prop} {YP : World → Heap → Prop} {d : DefRec} {K : Params → PySem.W.Frag} {CX : World → CXT} {sp : World → Sp} {x : Str}
    (hn : l.most = some n) (hn2 : n ≤ sizeLine) (hdf : d.params.defaults = []) (hr : Room k callerA)
    (hY : ∀ (w : World) (h : Heap), YP w h → (K w.params).In h)
    (F : ∀ (w : World) (mg : Str → Option Value) (fa : Addr) (h : Heap), (K w.params).In h → h.Ns mainGlobals mg → mg d.name = some (.ref fa) →
      ∃ fd : FuncData, (∀ (s : Shared) (u : Value), BindsTo s fd ⟨[u], []⟩ [(x, u)]) ∧
        ∀ base : Heap, (K w.params).In base → base.Ns mainGlobals mg → FnOk l.prog w (K w.params) mg base (CX w) k fa fd [x] (sp w))
    (hsp : ∀ (w : World) (H : Hp) (a : Addr) (ns : List Int), ns.length ≤ n → Only H → SqL (K w.params) H a (ns.map V.int) → sp w [.ref a] H (fun v _ => v = .bl true) fun _ _ _ => False)
    (hCX : ∀ (w : World) (H : Hp) (s : Shared) (e : Value) (s' : Shared), CX w [] H s (fun _ _ _ => False) e s' → False) :
    PySem.W.WalkO q loose XP YP l.row.toRowW d [] (fun f vs => PySem.call f vs) := by
  refine Att.attach_call hn hdf fun w s₀ s₁ mg mb fa o pm cd doc a vs ns G Y ho hd hcd hmg hobj hints hlen hg => ?_
  have KX := hY w _ Y
  obtain ⟨fd, hb, hF⟩ := F w mg fa _ KX G.T.g hmg
  exact law_call KX G.T.g G.T.b G.T.builtins G.T.nolimit hg hobj hints (Nat.le_trans hlen hn2) hr hF hb (fun H hO hS => hsp w H a ns hlen hO hS) fun H e s' => hCX w H s₁ e s'
theorem walk_ofK {l : PySem.W.OpenLaw} {n k : Nat} {q : Program} {loose : List Str} {XP : (Str → Option Value) → Heap → Prop} {YP : World → Heap → Prop} {d : DefRec} {K : Params → PySem.W.Frag} {CX : CXT} {sp : PySem.W.Frag → Sp} {x : Str}
    (hn : l.most = some n) (hn2 : n ≤ sizeLine) (hdf : d.params.defaults = []) (hr : Room k callerA)
    (hY : ∀ (w : World) (h : Heap), YP w h → (K w.params).In h)
    (F : ∀ (w : World) (mg : Str → Option Value) (fa : Addr) (h : Heap), (K w.params).In h → h.Ns mainGlobals mg → mg d.name = some (.ref fa) →
      ∃ fd : FuncData, (∀ (s : Shared) (u : Value), BindsTo s fd ⟨[u], []⟩ [(x, u)]) ∧
        ∀ base : Heap, (K w.params).In base → base.Ns mainGlobals mg → FnOk l.prog w (K w.params) mg base CX k fa fd [x] (sp (K w.params)))
    (hsp : ∀ (K : PySem.W.Frag) (H : Hp) (a : Addr) (ns : List Int), ns.length ≤ n → Only H → SqL K H a (ns.map V.int) → sp K [.ref a] H (fun v _ => v = .bl true) fun _ _ _ => False)
    (hCX : ∀ (H : Hp) (s : Shared) (e : Value) (s' : Shared), CX [] H s (fun _ _ _ => False) e s' → False) :
    PySem.W.WalkO q loose XP YP l.row.toRowW d [] (fun f vs => PySem.call f vs) :=
  walk_of (K := K) (CX := fun _ => CX) (sp := fun w => sp (K w.params)) hn hn2 hdf hr hY F (fun w H a ns h1 h2 h3 => hsp (K w.params) H a ns h1 h2 h3) fun _ H s e s' => hCX H s e s'
end L2

/- THE LAST THEOREM (shape; LID, My.* are yours):
   My.Adr: a structure of the addresses that your layer names (classes, functions); My.Txt K t: a structure (Prop) of the equations over K;
   My.txt_mk : {K} {implicit addresses ..} (e1 : nsIn K mainGlobals "law" = some (some (.ref f))) (e2 : K.lookup f = some ⟨oc, od, .func (fnOf "law" "law" params body scope dV kV doc pm an cdv ct), sl⟩) (e3 : codeIn K cdv "law" = true) .. : ∃ t, My.Txt K t

set_option maxRecDepth 100000 in
set_option maxHeartbeats 0 in
theorem PySem.Challenge.cw_LID_holds : PySem.Challenge.rw_LID.Holds := by
  w_on; o_law; k_head; (case hw => w_witness2)
  k_fill
  refine L2.walk_of (l := PySem.Challenge.rw_LID) (n := 63) (k := 40) (x := "script") (CX := fun w => ..) (sp := fun _ => My.sp_law) rfl (by decide) rfl ⟨rfl, by decide, by decide⟩ (fun w h Y => PySem.W.kIn_of Y) ?F ?S ?C
  case F =>
    intro w mg fa h KX G hmg
    have T : ∃ t, My.Txt (L2.KOf KX) t := by
      dsimp only [L2.KOf]                          -- K must stand as «<heap const> w.params» for k_is
      refine' My.txt_mk ?e1 ?e2 ?e3 ..
      (case e1 => PySem.W.k_is)                    -- in the order: a name -> its address -> its object -> its parts
      (case e2 => PySem.W.k_is)
      ..
    obtain ⟨t, T⟩ := T
    have e0 := hmg.symm.trans (PySem.W.mg_of KX G T.law)
    cases e0                                       -- fa is the law's own address
    exact ⟨_, fun s u => .of_eq rfl, fun base kb nb => My.law_fn T kb nb⟩     -- if «.of_eq rfl» comes too early: refine' ⟨_, ?b, fun base kb nb => My.law_fn T kb nb⟩; exact fun s u => .of_eq rfl
  case S => exact fun w H a ns hl hO hS => ..
  case C => exact ..
(the tactic k_is has no namespace: write k_is) -/
namespace L2
open PySem PySem.Spec PyProof.Rows
def inClass (s : Stmt) (j : Nat) : Stmt := match s with
  | .ClassDef _ _ _ body _ _ _ _ _ _ _ => body.getD j (.Pass ⟨0, 0, 0, 0⟩)
  | _ => .Pass ⟨0, 0, 0, 0⟩
def defArgs (s : Stmt) : Arguments := match s with
  | .FunctionDef _ a _ _ _ _ _ _ _ _ => a
  | _ => { posonlyargs := [], args := [], vararg := none, kwonlyargs := [], kw_defaults := [], kwarg := none, defaults := [] }
def defBody (s : Stmt) : List Stmt := match s with
  | .FunctionDef _ _ b _ _ _ _ _ _ _ => b
  | _ => []
def defScope (s : Stmt) : Scope := match s with
  | .FunctionDef _ _ _ _ _ _ sc _ _ _ => sc
  | _ => { kind := .function, names := [], isGenerator := false, isCoroutine := false }
abbrev CX0 : CXT := fun _ _ _ _ _ _ => False
abbrev E0 : XK := fun _ _ _ => False
theorem pass0 {X : Cx} : Passes CX0 X E0 := fun _ _ _ _ _ _ _ h => h.elim
structure Fun (K : PySem.W.Frag) (x qual : Str) (st : Stmt) (f : Addr) (fd : FuncData) : Prop where
  ex : ∃ (oc : Value) (od : Option Addr) (kV doc pm : Value) (an : Option Addr) (cdv ct : Value) (osl : Array (Option Value)),
    fd = PySem.W.fnOf x qual (defArgs st) (defBody st) (defScope st) .none kV doc pm an cdv ct ∧ K.lookup f = some ⟨oc, od, .func fd, osl⟩ ∧ PySem.W.codeIn K cdv qual = true
  kp : PySem.W.keepIn K (.ref f) = true
section
variable {P : Program} {w : World} {K : PySem.W.Frag} {mg : Str → Option Value} {base : Heap}
theorem Fun.ok {x qual : Str} {st : Stmt} {f : Addr} {fd : FuncData} {N ps : List Str} {k : Nat} {sp : Sp} (F : Fun K x qual st f fd) (S : FnScope N ps (defScope st)) (len : ∀ vs H Q E, sp vs H Q E → vs.length = ps.length)
    (hbody : ∀ (cdv : Value) (A : Around) (outer : List Env) (s : Shared) (H : Hp) (vs : List V) (Q : VK) (E : XK), Room k (A.deeper (envOfC qual (defScope st) s.heap.objs.size f cdv)) → sp vs H Q E →
      ∃ t, PSs (cxOf CX0 P w K mg base N qual (defScope st) f cdv A outer s H E).nox (defBody st) t ∧ t { nx := fun _ H' => Q .non H', rt := Q } (start N vs) H) : FnOk P w K mg base CX0 (k + 1) f fd ps sp := by
  obtain ⟨oc, od, kV, doc, pm, an, cdv, ct, osl, rfl, lk, hcd⟩ := F.ex
  refine fn_of lk hcd S len fun A outer s H vs Q E hr hsp => ?_
  obtain ⟨t, h, q⟩ := hbody cdv A outer s H vs Q E hr hsp
  exact ⟨t, h.nox, q⟩
theorem Fun.binds {x qual : Str} {st : Stmt} {f : Addr} {fd : FuncData} {ps : List Str} (F : Fun K x qual st f fd)
    (h : ∀ (kV doc pm : Value) (an : Option Addr) (cdv ct : Value) (us : List Value), us.length = ps.length → bindArgs (PySem.W.fnOf x qual (defArgs st) (defBody st) (defScope st) .none kV doc pm an cdv ct) ⟨us, []⟩ = pure (ps.zip us)) : Binds K fd ps [] := by
  obtain ⟨oc, od, kV, doc, pm, an, cdv, ct, osl, rfl, lk, hcd⟩ := F.ex
  exact .all (h kV doc pm an cdv ct)
theorem fun_mk {x qual : Str} {st : Stmt} {f : Addr} {oc : Value} {od an : Option Addr} {osl : Array (Option Value)} {kV doc pm cdv ct : Value} (l : K.lookup f = some ⟨oc, od, .func (PySem.W.fnOf x qual (defArgs st) (defBody st) (defScope st) .none kV doc pm an cdv ct), osl⟩)
    (c : PySem.W.codeIn K cdv qual = true) (k : PySem.W.keepIn K (.ref f) = true) : Fun K x qual st f (PySem.W.fnOf x qual (defArgs st) (defBody st) (defScope st) .none kV doc pm an cdv ct) := ⟨⟨oc, od, kV, doc, pm, an, cdv, ct, osl, rfl, l, c⟩, k⟩
end
section
variable {X : Cx}
theorem pv (i : Nat) {x : Str} {pos : Pos} (hN : X.N[i]? = some x := by rfl) (hv : Vis X.env.scope x := by first | exact Or.inl rfl | exact Or.inr (Or.inl rfl) | exact Or.inr (Or.inr rfl)) (hd : (x == ("__debug__" : Str)) = false := by decide)
    (hcd : (x == ("__classdict__" : Str)) = false := by decide) : PE X (.Name x pos) (tVar i) := pe_var hN hv hd hcd
end
theorem iteF {A B : Prop} (h : B) : if false = true then A else B := by
  rw [if_neg Bool.false_ne_true]
  exact h
theorem iteT {A B : Prop} (h : A) : if true = true then A else B := by
  rw [if_pos rfl]
  exact h
theorem ite2 {c A B : Prop} [Decidable c] (h1 : c → A) (h2 : ¬ c → B) : if c then A else B := by
  by_cases h : c
  · rw [if_pos h]
    exact h1 h
  · rw [if_neg h]
    exact h2 h
theorem iteNS {c A B : Prop} [Decidable c] (hc : c) (h : B) : if (!decide c) = true then A else B := by
  rw [decide_eq_true hc]
  exact iteF h
def Same (H H' : Hp) : Prop := ∀ b o, H b = some o → H' b = some o
theorem Same.refl (H : Hp) : Same H H := fun _ _ h => h
theorem Same.trans {H H1 H2 : Hp} (a : Same H H1) (b : Same H1 H2) : Same H H2 := fun c o h => b c o (a c o h)
end L2
section
set_option maxHeartbeats 4000001
namespace L2
open PySem PySem.Spec PyProof.Rows
def clOf (cells : List (Str × Addr)) : List (Str × NameKind) → List (Str × Addr) → List (Str × Addr)
  | [], cs => cs
  | (n, k) :: r, cs => if k == .free then clOf cells r ((n, (cells.lookup n).getD 0) :: cs) else clOf cells r cs
theorem clOf_run {env : Env} : ∀ (names : List (Str × NameKind)) (cs : List (Str × Addr)), (∀ y ∈ names, y.2 = .free → ∃ c, env.cells.lookup y.1 = some c) →
    (forIn names cs fun x r => match x with | (name, kind) => if (kind == NameKind.free) = true then (do let a ← cellOf env name; pure (ForInStep.yield ((name, a) :: r))) else pure (ForInStep.yield r) : Sem (List (Str × Addr))) = pure (clOf env.cells names cs)
  | [], cs, _ => rfl
  | (n, k) :: r, cs, h => by
    rw [List.forIn_cons]
    by_cases e : (k == NameKind.free) = true
    · obtain ⟨c, hc⟩ := h (n, k) List.mem_cons_self (by simpa using e)
      have hcell : cellOf env n = pure c := by
        have hc' : env.cells.lookup n = some c := hc
        unfold cellOf; rw [hc']
      simp only [e, if_true, hcell, pure_bind]
      rw [clOf_run r _ fun y hy => h y (List.mem_cons_of_mem _ hy)]
      have hc' : env.cells.lookup n = some c := hc
      show _ = pure (if (k == NameKind.free) = true then _ else _)
      rw [if_pos e, hc']
      rfl
    · have ef : (k == NameKind.free) = false := by simpa using e
      simp only [ef, Bool.false_eq_true, if_false, pure_bind]
      rw [clOf_run r _ fun y hy => h y (List.mem_cons_of_mem _ hy)]
      show _ = pure (if (k == NameKind.free) = true then _ else _)
      rw [if_neg e]
theorem closure_eq {scope : Scope} {env : Env} (h : ∀ y ∈ scope.names, y.2 = .free → ∃ c, env.cells.lookup y.1 = some c) : closureFor scope env = pure (clOf env.cells scope.names []) := by
  unfold closureFor
  show (forIn scope.names [] _ >>= fun r => pure r) = _
  rw [bind_pure]
  exact clOf_run _ _ h
theorem clOf_sub {cells : List (Str × Addr)} : ∀ (names : List (Str × NameKind)) (cs : List (Str × Addr)) (x : Str) (c : Addr), (∀ y ∈ names, y.2 = .free → ∃ c, cells.lookup y.1 = some c) →
    (∀ x c, cs.lookup x = some c → cells.lookup x = some c) → (clOf cells names cs).lookup x = some c → cells.lookup x = some c
  | [], cs, x, c, _, hs, e => hs x c e
  | (n, k) :: r, cs, x, c, h, hs, e => by
    unfold clOf at e
    by_cases q : (k == NameKind.free) = true
    · rw [if_pos q] at e
      obtain ⟨c0, hc0⟩ := h (n, k) List.mem_cons_self (by simpa using q)
      refine clOf_sub r _ x c (fun y hy => h y (List.mem_cons_of_mem _ hy)) (fun x' c' e' => ?_) e
      rw [List.lookup_cons] at e'
      cases hx : x' == n with
      | true =>
        rw [hx] at e'
        have hx' : x' = n := by simpa using hx
        subst hx'
        have hc0' : cells.lookup x' = some c0 := hc0
        rw [hc0'] at e' ⊢
        exact e'
      | false =>
        rw [hx] at e'
        exact hs x' c' e'
    · rw [if_neg q] at e
      exact clOf_sub r _ x c (fun y hy => h y (List.mem_cons_of_mem _ hy)) hs e
theorem clOf_keep {cells : List (Str × Addr)} : ∀ (names : List (Str × NameKind)) (cs : List (Str × Addr)) (x : Str), (∃ c, cs.lookup x = some c) → ∃ c, (clOf cells names cs).lookup x = some c
  | [], cs, x, e => e
  | (n, k) :: r, cs, x, e => by
    unfold clOf
    by_cases q : (k == NameKind.free) = true
    · rw [if_pos q]
      refine clOf_keep r _ x ?_
      rw [List.lookup_cons]
      cases hx : x == n with
      | true => exact ⟨_, rfl⟩
      | false => exact e
    · rw [if_neg q]
      exact clOf_keep r _ x e
theorem clOf_has {cells : List (Str × Addr)} : ∀ (names : List (Str × NameKind)) (cs : List (Str × Addr)) (x : Str), names.lookup x = some .free → ∃ c, (clOf cells names cs).lookup x = some c
  | [], cs, x, e => by simp at e
  | (n, k) :: r, cs, x, e => by
    rw [List.lookup_cons] at e
    unfold clOf
    cases hx : x == n with
    | true =>
      rw [hx] at e
      have e' : k = .free := Option.some.inj e
      subst e'
      rw [if_pos (by decide)]
      refine clOf_keep r _ x ?_
      rw [List.lookup_cons, hx]
      exact ⟨_, rfl⟩
    | false =>
      rw [hx] at e
      by_cases q : (k == NameKind.free) = true
      · rw [if_pos q]; exact clOf_has r _ x e
      · rw [if_neg q]; exact clOf_has r _ x e
def asCell (env : Env) (p : Str × NameKind) : Bool := p.2 == .free && env.scope.kind == .function && env.kindOf p.1 == some .cell
def inBlock (env : Env) (p : Str × NameKind) : Str × NameKind := if asCell env p = true then (p.1, .cell) else p
theorem inBlock_fst (env : Env) (p : Str × NameKind) : (inBlock env p).1 = p.1 := by unfold inBlock; split <;> rfl
theorem inBlock_snd (env : Env) (p : Str × NameKind) : (inBlock env p).2 = p.2 ∨ ((inBlock env p).2 = .cell ∧ p.2 = .free) := by
  unfold inBlock
  split
  · rename_i h
    refine .inr ⟨rfl, ?_⟩
    unfold asCell at h
    cases e : p.2 <;> simp [e] at h <;> rfl
  · exact .inl rfl
theorem relabel_names (scope : Scope) (env : Env) : (relabel scope env).names = scope.names.map (inBlock env) := rfl
theorem look_map {f : Str × NameKind → Str × NameKind} (hf : ∀ p, (f p).1 = p.1) : ∀ (l : List (Str × NameKind)) (x : Str), (l.map f).lookup x = none ∧ l.lookup x = none ∨ ∃ p ∈ l, (l.map f).lookup x = some (f p).2 ∧ l.lookup x = some p.2
  | [], _ => .inl ⟨rfl, rfl⟩
  | p :: r, x => by
    have e1 : ((p :: r).map f).lookup x = if x == p.1 then some (f p).2 else (r.map f).lookup x := by
      show List.lookup x (((f p).1, (f p).2) :: r.map f) = _
      rw [List.lookup_cons, hf p]; cases x == p.1 <;> rfl
    have e2 : (p :: r).lookup x = if x == p.1 then some p.2 else r.lookup x := by
      show List.lookup x ((p.1, p.2) :: r) = _
      rw [List.lookup_cons]; cases x == p.1 <;> rfl
    rw [e1, e2]
    cases x == p.1
    · rcases look_map hf r x with z | ⟨q, hq, z⟩
      · exact .inl z
      · exact .inr ⟨q, List.mem_cons_of_mem _ hq, z⟩
    · exact .inr ⟨p, List.mem_cons_self, rfl, rfl⟩
theorem relabel_kind {scope : Scope} {env : Env} {x : Str} {k' : NameKind} (h : (relabel scope env).names.lookup x = some k') : scope.names.lookup x = some k' ∨ (k' = .cell ∧ scope.names.lookup x = some .free) := by
  rw [relabel_names] at h
  rcases look_map (inBlock_fst env) scope.names x with ⟨z, _⟩ | ⟨p, _, z, e⟩
  · rw [z] at h; cases h
  · rw [z] at h
    obtain rfl := Option.some.inj h
    rcases inBlock_snd env p with q | ⟨q, q'⟩
    · rw [q]; exact .inl e
    · exact .inr ⟨q, by rw [e, q']⟩
theorem relabel_free {scope : Scope} {env : Env} {x : Str} (h : scope.names.lookup x = some .free) : (relabel scope env).names.lookup x = some .cell ∨ (relabel scope env).names.lookup x = some .free := by
  rw [relabel_names]
  rcases look_map (inBlock_fst env) scope.names x with ⟨_, z⟩ | ⟨p, _, z, e⟩
  · rw [z] at h; cases h
  · rw [e] at h
    rcases inBlock_snd env p with q | ⟨q, _⟩
    · rw [z, q, h]; exact .inr rfl
    · rw [z, q]; exact .inl rfl
def cxComp (X : Cx) (N' : List Str) (scope : Scope) (C : Addr) (s₀ : Shared) (H₀ : Hp) (fp : List Addr) (pins : List (Addr × Obj)) : Cx :=
  { X with N := N', s₀ := s₀, H₀ := H₀, env := compEnvC scope (clOf X.env.cells scope.names []) C X.env, outer := X.stack, stack := X.stack, ex := fp, fn := fun _ => false, pn := X.pn ++ pins, xe := fun _ _ => False }
def capσ (cap : List (Option Nat)) (σ : St) : St := cap.map fun o => match o with | some i => (match σ[i]? with | some v => v | none => none) | none => none
def tst (M : Model) (A : Around) (env : Env) (E : Value → Shared → Prop) (o : Option Expr) (Q : Bool → Shared → Prop) (s : Shared) : Prop := match o with
  | none => Q true s
  | some c => wpAny M A (isTrue c env (eval c env)) Q E s
theorem tst_mono {M : Model} {A : Around} {env : Env} {E : Value → Shared → Prop} {o : Option Expr} {Q Q' : Bool → Shared → Prop} {s : Shared} (h : tst M A env E o Q s) (k : ∀ b z, Q b z → Q' b z) : tst M A env E o Q' s := by
  cases o with
  | none => exact k _ _ h
  | some c => exact thn h k
def PTo (X : Cx) (o : Option Expr) (t : TT) : Prop :=
  ∀ (pins : List (Addr × Obj)) (s : Shared) (σ : St) (H : Hp) (Q : Bool → Hp → Prop), Inv X pins σ H s → t σ H Q → tst (model X.prog X.w) X.A X.env X.xe o (TP X pins σ Q) s
def tYes : TT := fun _ H Q => Q true H
theorem pt_none {X : Cx} : PTo X none tYes := fun _ _ _ H _ I h => ⟨H, I, h⟩
theorem pt_some {X : Cx} {c : Expr} {t : TT} (h : PT X c t) : PTo X (some c) t := fun pins s σ H Q I hw => h pins s σ H Q I hw
abbrev NoX : Value → Shared → Prop := fun _ _ => False
def Go (M : Model) (A : Around) (tg elt : Expr) (o : Option Expr) (it acc : Value) (env : Env) (R : Result → Shared → Prop) (onward : Shared → Prop) (s : Shared) : Prop :=
  wpAny M A (pyNext it) (fun r a => match r with
    | none => R (.ok .next) a
    | some v => wpAny M A (letOwnedTupleGo tg it v) (fun _ b => wpAny M A (assign tg env v) (fun _ c => tst M A env NoX o (fun yes d =>
        if yes = true then wpAny M A (eval elt env) (fun x e => wpAny M A (call (.builtin "list.append") [acc, x]) (fun _ f => onward f) NoX e) NoX d else onward d) c) NoX b) NoX a) NoX s
theorem comp_loop {prog : Program} {w : World} {A : Around} {R : Result → Shared → Prop} {s : Shared} {elt tg iter : Expr} {o : Option Expr} {scope : Scope} {pos : Pos} {it acc : Value} {env : Env} (J : Nat → Shared → Prop)
    (turn : ∀ n s, J n s → Go (model prog w) A tg elt o it acc env R (fun z => ∃ m, m < n ∧ J m z) s) (n : Nat) (h : J n s) :
    codeAny (model prog w) A (.compLoop (.ListComp elt [⟨tg, iter, o.toList, 0⟩] scope pos) 0 it acc env) R s := by
  cases o with
  | none =>
    refine PySem.W.kcp_loop J (fun n a ha => wpAny_mono (turn n a ha) (fun r b hb => ?_) fun _ _ z => z.elim) n h
    cases r with
    | none => exact hb
    | some v => exact wpAny_mono hb (fun _ c hc => wpAny_mono hc (fun _ d hd => wpAny_mono (show wpAny _ _ _ _ _ d from hd) (fun x e he => wpAny_mono he (fun _ _ q => q) fun _ _ z => z.elim) fun _ _ z => z.elim) fun _ _ z => z.elim) fun _ _ z => z.elim
  | some t =>
    refine PySem.W.kct_loop J (fun n a ha => wpAny_mono (turn n a ha) (fun r b hb => ?_) fun _ _ z => z.elim) n h
    cases r with
    | none => exact hb
    | some v =>
      refine wpAny_mono hb (fun _ c hc => wpAny_mono hc (fun _ d hd => wpAny_mono (show wpAny _ _ _ _ _ d from hd) (fun yes e he => ?_) fun _ _ z => z.elim) fun _ _ z => z.elim) fun _ _ z => z.elim
      cases yes
      · exact he
      · exact wpAny_mono (show wpAny _ _ _ _ _ e from he) (fun x f hf => wpAny_mono hf (fun _ _ q => q) fun _ _ z => z.elim) fun _ _ z => z.elim
structure CapOk (N N' : List Str) (sc scope : Scope) (cap : List (Option Nat)) : Prop where
  kind : scope.kind = .function
  nocell : ∀ y ∈ scope.names, y.2 ≠ .cell
  names : ∀ y ∈ scope.names, y.2 = .local → scope.names.lookup y.1 = some .local
  free : ∀ y ∈ scope.names, y.2 = .free → sc.names.lookup y.1 = some .cell ∨ sc.names.lookup y.1 = some .free
  len : cap.length = N'.length
  cap : ∀ p ∈ N'.zip cap, ∀ i, p.2 = some i → N[i]? = some p.1 ∧ scope.names.lookup p.1 = some .free ∧ (sc.names.lookup p.1 = some .cell ∨ sc.names.lookup p.1 = some .free)
theorem lookup_mem {α : Type} : ∀ {l : List (Str × α)} {x : Str} {a : α}, l.lookup x = some a → (x, a) ∈ l
  | [], _, _, h => by simp at h
  | (n, k) :: r, x, a, h => by
    rw [List.lookup_cons] at h
    cases hx : x == n with
    | true =>
      rw [hx] at h
      have e : k = a := Option.some.inj h
      have e2 : x = n := by simpa using hx
      subst e e2
      exact List.mem_cons_self
    | false => rw [hx] at h; exact List.mem_cons_of_mem _ (lookup_mem h)
def LCW (J : It) (g : TG) (tt : TT) (te : TE) (l : Addr) (Q : VK) (W : Nat → Nat → List V → St → Hp → Prop) : Prop :=
  ∀ i m acc σ' H', W i m acc σ' H' → H' l = some (.lst acc) ∧
    ((J.stop i H' ∧ Q (.ref l) H') ∨ (J.go i H' ∧ ∀ x H2, J.yld i H' x H2 → g x σ' H2 fun σ3 H3 => tt σ3 H3 fun b H4 =>
      if b = true then te σ3 H4 fun y H5 => H5 l = some (.lst acc) ∧ acc.length < sizeLine ∧ ∃ m', m' < m ∧ W (i + 1) m' (acc ++ [y]) σ3 (upd H5 l (.lst (acc ++ [y])))
      else ∃ m', m' < m ∧ W (i + 1) m' acc σ3 H4))
def tLC (cap : List (Option Nat)) (wi : TI) (g : TG) (tt : TT) (te : TE) : TE := fun σ H Q => wi σ H fun J H1 => ∀ l, H1 l = none →
  ∃ W : Nat → Nat → List V → St → Hp → Prop, (∃ m, W 0 m [] (capσ cap σ) (upd H1 l (.lst []))) ∧ LCW J g tt te l Q W
end L2
end
section
set_option maxHeartbeats 4000001
namespace L2
open PySem PySem.Spec PyProof.Rows
theorem lc_core {X : Cx} {elt tg iter : Expr} {o : Option Expr} {scope : Scope} {pos ppos : Pos} {wi : TI} {g : TG} {tt : TT} {te : TE} {N' : List Str} {cap : List (Option Nat)} {use : Option (Value → Sem Unit)} {Q0 : Value → Shared → Prop}
    (hc : X.calm = true) (hi : PI X tg iter wi) (ck : CapOk X.N N' X.env.scope scope cap)
    (hg : ∀ C s₀ H₀ fp pins, PG (cxComp X N' scope C s₀ H₀ fp pins) tg g)
    (ht : ∀ C s₀ H₀ fp pins, PTo (cxComp X N' scope C s₀ H₀ fp pins) o tt)
    (he : ∀ C s₀ H₀ fp pins, PE (cxComp X N' scope C s₀ H₀ fp pins) elt te)
    (hs : ∀ x, foldedSetIterable iter X.env x = pure x) {pins : List (Addr × Obj)} {s : Shared} {σ : St} {H : Hp} {Q : VK} (I : Inv X pins σ H s) (h : tLC cap wi g tt te σ H Q)
    (fin : ∀ (l C : Addr) (H4 : Hp) (s5 : Shared) (m : Str → Option Value), Inv X pins σ H4 s5 → Q (.ref l) H4 → s5.heap.Ns C m → FpOk X pins H4 C → compPost (model X.prog X.w) X.A X.xe use Q0 (.ref l) C (.ok .next) s5) :
    wpAny (model X.prog X.w) X.A (comprehension (.ListComp elt [⟨tg, iter, o.toList, 0⟩] scope pos) scope X.env ppos (newList []) false (eval iter X.env) use) Q0 X.xe s := by
  have hcells : ∀ y ∈ scope.names, y.2 = .free → ∃ c, X.env.cells.lookup y.1 = some c := fun y hy hf => I.ok.has y.1 (ck.free y hy hf)
  refine wpAny_comprehension_free (use := use) rfl hs (closure_eq hcells) ck.kind ck.names (thn (hi pins s σ H _ I h) fun v s1 h1 => thn h1 fun itv s2 h2 => ?_)
  obtain ⟨it, fp, tn, J, H2, e, I2, T, st2, f2, body⟩ := h2
  subst e
  have hfr2 : H2 s2.heap.objs.size = none := I2.hok.fresh (Nat.le_refl _)
  obtain ⟨W, ⟨m0, w0⟩, turn⟩ := body s2.heap.objs.size hfr2
  have I3 : Inv X pins σ (upd H2 s2.heap.objs.size (.lst [])) { s2 with heap := s2.heap.push { cls := .type "list", data := .seq ([] : List Value).toArray }, toks := s2.toks } := I2.lnew (its := []) (t' := s2.toks) .nil (Nat.zero_le _)
  refine wpAny_newObj_type (wpAny_newFunctionEnv ck.nocell (by intro y hy; simp at hy) (fun h₁ hns₁ hsb₁ => ?_) ck.kind)
  dsimp only at hns₁ hsb₁ ⊢
  generalize hl : s2.heap.objs.size = l at *
  generalize hP : s2.heap.push { cls := .type "list", dict := none, data := .seq ([] : List Value).toArray } = P2 at *
  generalize hH3 : upd H2 l (.lst []) = H3 at *
  have old : ∀ b o, P2.get? b = some o → h₁.get? b = some o := fun b o e => hsb₁.extBut b o (Nat.ne_of_lt (Heap.lt_size e)) (Heap.get?_push_of_some _ e)
  have old2 : ∀ b o, s2.heap.get? b = some o → P2.get? b = some o := fun b o e => hP ▸ Heap.get?_push_of_some _ e
  have fpl : ∀ b ∈ fp, b < l := fun b hb => by
    obtain ⟨o, e, _⟩ := T.obj _ _ st2 b hb
    rw [← hl]; exact Heap.lt_size e
  have fp3 : ∀ b ∈ fp, H3 b = none := fun b hb => by
    rw [← hH3, upd_ne (Nat.ne_of_lt (fpl b hb))]; exact (f2 b hb).1
  have hPs : P2.objs.size = l + 1 := by rw [← hP, Heap.size_push, hl]
  have subc : ∀ x c, (clOf X.env.cells scope.names []).lookup x = some c → X.env.cells.lookup x = some c := fun x c e => clOf_sub _ _ x c hcells (fun _ _ z => by simp at z) e
  generalize hs3 : ({ s2 with heap := P2, toks := s2.toks } : Shared) = s3 at *
  have hs3h : s3.heap = P2 := by rw [← hs3]
  let Y := cxComp X N' scope P2.objs.size s3 H3 fp pins
  have hYok : Y.Ok := by
    refine ⟨I3.ok.mod, ck.kind, I3.ok.glob, I3.ok.blt, by show s3.heap.objs.size ≤ P2.objs.size; rw [hs3h]; exact Nat.le_refl _, fun x y c e1 e2 => I3.ok.inj x y c (subc x c e1) (subc y c e2), fun x hx => ?_, fun x c hx => absurd (show false = true from hx) Bool.false_ne_true, I3.ok.hd, I3.ok.frames, .inl rfl, fun b hb => ⟨?_, fun x c e => ?_⟩, I3.bs,
      Nat.le_trans I3.ok.bsz I3.sz, fun b o e hb => ?_, fun b hb hz => ?_, I3.stack, I3.stkFree⟩
    · have hx' : scope.names.lookup x = some .free := by
        rcases hx with hx | hx
        · rcases relabel_kind hx with z | z
          · exact absurd rfl (ck.nocell _ (lookup_mem z))
          · exact z.2
        · rcases relabel_kind hx with z | z
          · exact z
          · exact z.2
      exact clOf_has _ _ x hx'
    · exact Nat.ne_of_lt (by show b < P2.objs.size; rw [hPs]; exact Nat.lt_succ_of_lt (fpl b hb))
    · exact (f2 b hb).2.2.2.2.1 x c (subc x c e)
    · rcases (f2 b hb).2.2.2.1 with z | z
      · exact I3.ok.noex b o e z
      · exact absurd (Nat.lt_of_lt_of_le (Heap.lt_size e) (Nat.le_trans I3.ok.bsz z)) (Nat.lt_irrefl _)
    · rcases List.mem_cons.mp (I3.stkSub b hz) with z | z
      · exact (f2 b hb).2.1 z
      · exact (f2 b hb).2.2.1 z
  have hYi : Inv Y [] (capσ cap σ) H3 { s2 with heap := h₁, toks := s2.toks } := by
    refine ⟨hYok, by show s2.os = s3.os; rw [← hs3], I2.bare, by show Un _ _ _ _ s3.heap h₁; rw [hs3h]; exact Un.kept old, ⟨_, hns₁, fun j x v e1 e2 e3 => ?_⟩, fun x c e => ?_, ?_, fun x c e => I3.freeC x c (subc x c e), fun p hp => ?_, fun b o e => ?_, ?_⟩
    · have e1' : N'[j]? = some x := e1
      unfold capσ at e2
      rw [List.getElem?_map] at e2
      cases ec : cap[j]? with
      | none => rw [ec] at e2; cases e2
      | some oc =>
        rw [ec] at e2
        cases oc with
        | none => cases e2
        | some i =>
          have e2' : σ[i]? = some (some v) := by
            cases ei : σ[i]? with
            | none => simp [ei] at e2
            | some v' =>
              simp [ei] at e2
              rw [e2]
          have hz : (x, some i) ∈ N'.zip cap := by
            refine List.mem_of_getElem? (i := j) ?_
            rw [List.getElem?_zip_eq_some]
            exact ⟨e1', ec⟩
          obtain ⟨hN, hf, hk⟩ := ck.cap _ hz i rfl
          obtain ⟨m, hn, hlo⟩ := I3.loc
          obtain ⟨u, r, lk⟩ := hlo i x v hN e2' (by rcases hk with z | z; exact .inr (.inl z); exact .inr (.inr z))
          refine ⟨u, r, .inr ⟨?_, ?_⟩⟩
          · exact relabel_free hf
          · rcases lk with ⟨z, _⟩ | ⟨_, c, hcx, hcell⟩
            · have z' : X.env.scope.names.lookup x = some .local := z
              rcases hk with q | q
              · rw [q] at z'; cases z'
              · rw [q] at z'; cases z'
            · obtain ⟨c', hc'⟩ := clOf_has (cells := X.env.cells) scope.names [] x hf
              have := subc x c' hc'
              rw [hcx] at this; cases this
              obtain ⟨ob, e, d⟩ := hcell
              rw [hs3h] at e
              exact ⟨c, hc', ob, old c ob e, d⟩
    · obtain ⟨v, ob, e', d⟩ := I3.cell x c (subc x c e)
      rw [hs3h] at e'
      exact ⟨v, ob, old c ob e', d⟩
    · refine I3.hok.fresh ?_
      rw [hs3h]; exact Nat.le_refl _
    · have hp' : p ∈ X.pn ++ pins := (List.mem_append.mp hp).elim (fun z => z) (fun z => nomatch z)
      obtain ⟨e, n, ne, nf, d⟩ := I3.pin p hp'
      rw [hs3h] at e
      refine ⟨old _ _ e, n, Nat.ne_of_lt (Heap.lt_size e), fun z => ?_, d⟩
      rcases List.mem_cons.mp (I3.stkSub _ z) with q | q
      · exact ne q
      · exact nf q
    · have := I3.hok.kept (h' := h₁) (fun b u q => old b u (by rw [← hs3h]; exact q))
      exact this b o e
    · show (cap.map _).length = N'.length
      rw [List.length_map, ck.len]
  have stat : ∀ {H' : Hp}, (∀ b ∈ fp, H' b = none) → ∀ b ∈ fp, FpOk Y [] H' b := fun {H'} hn b hb => by
    refine ⟨hn b hb, (hYok.exf b hb).1, hYok.exfs b hb, .inl hb, (hYok.exf b hb).2, fun p hp => ?_⟩
    have hp' : p ∈ X.pn ++ pins := (List.mem_append.mp hp).elim (fun z => z) (fun z => nomatch z)
    exact (f2 b hb).2.2.2.2.2 p hp'
  have st1 : tn 0 h₁ := T.keep 0 _ _ st2 fun b hb o e => old b o (old2 b o e)
  have loop : codeAny (model X.prog X.w) X.A (.compLoop (.ListComp elt [⟨tg, iter, o.toList, 0⟩] scope pos) 0 (.ref it) (.ref l) Y.env) (compPost (model X.prog X.w) X.A X.xe use Q0 (.ref l) P2.objs.size) { s2 with heap := h₁, toks := s2.toks } := by
    refine comp_loop (fun n s' => ∃ i acc σ' H', Inv Y [] σ' H' s' ∧ tn i s'.heap ∧ (∀ b ∈ fp, H' b = none) ∧ W i n acc σ' H') ?_ m0 ⟨0, [], _, H3, hYi, st1, fp3, w0⟩
    rintro n s4 ⟨i, acc, σ4, H4, I4, st4, fr4, w4⟩
    obtain ⟨hlst, q4⟩ := turn i n acc σ4 H4 w4
    rcases q4 with ⟨stop, qn⟩ | ⟨go, step⟩
    · refine thn (T.done Y rfl rfl rfl hc i [] s4 σ4 H4 Y.xe I4 (stat fr4) st4 stop) fun r s5 ⟨hr, I5⟩ => ?_
      subst hr
      obtain ⟨m, hn, _⟩ := id I5.loc
      have un : Un (frs X.stack) fp H3 H4 s3.heap s5.heap := I5.base
      have sz3 : s3.heap.objs.size ≤ P2.objs.size := by rw [hs3h]; exact Nat.le_refl _
      have IX : Inv X pins σ H4 s5 := I3.call' (ch := fp) I5.os un I5.hok I5.bare fun b hb => ⟨(f2 b hb).2.2.2.1, (f2 b hb).2.1, (f2 b hb).2.2.2.2.1, (f2 b hb).2.2.2.2.2⟩
      exact fin l P2.objs.size H4 s5 m IX qn hn (I3.fpOk sz3 I5.free)
    · refine thn (T.item Y rfl rfl rfl hc i [] s4 σ4 H4 Y.xe I4 (stat fr4) st4 go) fun r s5 ⟨u, hr, h5⟩ => ?_
      subst hr
      refine thn h5 fun _ s6 ⟨x, H6, I6, r6, y6, st6, fr6⟩ => ?_
      have I6' := I6.pinned (stat fr6) (T.obj _ _ st6)
      refine thn (hg _ _ _ _ _ _ s6 σ4 H6 x u _ I6' r6 (step x H6 y6)) fun _ s7 ⟨σ7, H7, I7, q7⟩ => ?_
      refine tst_mono (ht _ _ _ _ _ _ s7 σ7 H7 _ I7 q7) fun b s8 ⟨H8, I8, q8⟩ => ?_
      have again : ∀ {σ9 : St} {H9 : Hp} {s9 : Shared} {acc9 : List V}, Inv Y ([] ++ pinsAt fp s6.heap) σ9 H9 s9 → (∃ m', m' < n ∧ W (i + 1) m' acc9 σ9 H9) → ∃ m, m < n ∧ ∃ i acc σ' H', Inv Y [] σ' H' s9 ∧ tn i s9.heap ∧ (∀ b ∈ fp, H' b = none) ∧ W i m acc σ' H' := fun {σ9 H9 s9 acc9} I9 ⟨m', hm, w9⟩ => by
        refine ⟨m', hm, i + 1, acc9, σ9, H9, I9.unpinned, T.keep _ _ _ st6 fun b hb o e => (I9.pin (b, o) (List.mem_append_right _ (List.mem_append_right _ (mem_pinsAt hb e)))).1, fun b hb => ?_, w9⟩
        obtain ⟨o, e, d⟩ := T.obj _ _ st6 b hb
        exact (I9.pin (b, o) (List.mem_append_right _ (List.mem_append_right _ (mem_pinsAt hb e)))).2.1
      cases b with
      | false =>
        rw [if_neg Bool.false_ne_true] at q8 ⊢
        exact again I8 q8
      | true =>
        rw [if_pos rfl] at q8 ⊢
        refine thn (he _ _ _ _ _ _ s8 σ7 H8 _ I8 q8) fun yv s9 ⟨y, H9, I9, r9, hl9, hz9, q9⟩ => ?_
        refine thn (mt_append (X := Y) _ s9 σ7 H9 (.ref l) [y] (.ref l) [yv] (fun _ H' => H' = upd H9 l (.lst (acc ++ [y]))) I9 rfl (.cons r9 .nil) ⟨l, acc, y, rfl, rfl, hl9, hz9, rfl⟩) fun _ s10 ⟨_, H10, I10, _, e10⟩ => ?_
        subst e10
        exact again I10 q9
  exact codeAny_compStart_list loop (T.self X.A 0 _ _ _ st1 loop)
theorem Inv.gone {X : Cx} {pins : List (Addr × Obj)} {σ : St} {H : Hp} {s : Shared} {C : Addr} {h' : Heap} (I : Inv X pins σ H s) (f : FpOk X pins H C) (sb : Heap.SameBut C s.heap h') : Inv X pins σ H { s with heap := h' } :=
  I.turned (t' := s.toks) (fun b o hb e => (sb.2 b hb).trans e) f.1 f.2.1 f.2.2.2.1 f.2.2.2.2.1 f.2.2.2.2.2
theorem pe_lc {X : Cx} {elt tg iter : Expr} {o : Option Expr} {scope : Scope} {pos : Pos} {wi : TI} {g : TG} {tt : TT} {te : TE} {N' : List Str} {cap : List (Option Nat)}
    (hc : X.calm = true) (hi : PI X tg iter wi) (ck : CapOk X.N N' X.env.scope scope cap)
    (hg : ∀ C s₀ H₀ fp pins, PG (cxComp X N' scope C s₀ H₀ fp pins) tg g)
    (ht : ∀ C s₀ H₀ fp pins, PTo (cxComp X N' scope C s₀ H₀ fp pins) o tt)
    (he : ∀ C s₀ H₀ fp pins, PE (cxComp X N' scope C s₀ H₀ fp pins) elt te)
    (hs : ∀ x, foldedSetIterable iter X.env x = pure x := by intro _; rfl) :
    PE X (.ListComp elt [⟨tg, iter, o.toList, 0⟩] scope pos) (tLC cap wi g tt te) := by
  intro pins s σ H Q I h
  rw [eval_ListComp]
  exact lc_core (use := none) hc hi ck hg ht he hs I h fun l C H4 s5 m I5 q hn f => ⟨m, hn, fun h' sb => ⟨.ref l, H4, I5.gone f sb, rfl, q⟩⟩
theorem ps_setLC {X : Cx} {i : Nat} {y : Str} {elt tg iter : Expr} {o : Option Expr} {scope : Scope} {pos spos py : Pos} {wi : TI} {g : TG} {tt : TT} {te : TE} {N' : List Str} {cap : List (Option Nat)}
    (hN : X.N.Nodup) (hi' : X.N[i]? = some y) (hy : X.env.scope.names.lookup y = some .local) (hc : X.calm = true) (hi : PI X tg iter wi) (ck : CapOk X.N N' X.env.scope scope cap)
    (hg : ∀ C s₀ H₀ fp pins, PG (cxComp X N' scope C s₀ H₀ fp pins) tg g)
    (ht : ∀ C s₀ H₀ fp pins, PTo (cxComp X N' scope C s₀ H₀ fp pins) o tt)
    (he : ∀ C s₀ H₀ fp pins, PE (cxComp X N' scope C s₀ H₀ fp pins) elt te)
    (hs : ∀ x, foldedSetIterable iter X.env x = pure x := by intro _; rfl)
    (hsw : swapsWith (.ListComp elt [⟨tg, iter, o.toList, 0⟩] scope pos) (some (.Name y py)) spos.line X.env = pure true := by with_unfolding_all rfl) :
    PS X (.Assign [.Name y py] (.ListComp elt [⟨tg, iter, o.toList, 0⟩] scope pos) spos) (tAsg (tLC cap wi g tt te) (gName i)) := by
  intro pins s σ H D I h
  rw [exec_Assign_Name_used y py _ spos hsw]
  refine wpAny_bind (wpAny_standAt (wpAny_bind (wpAny_bind (thn (lc_core (use := some (assign (.Name y py) X.env)) (Q0 := fun _ z => SP X pins D .next z) hc hi ck hg ht he hs I h fun l C H4 s5 m I5 q hn f => ?_) fun _ z hz => wpAny_pure (wpAny_pure hz)))))
  refine wpAny_assign_Name (store_ok2 (v := .ref l) I5 hN hi' (.inl hy) rfl (fun s6 I6 ⟨a, sb, ha⟩ => ?_) (.inr hy))
  have nC : C ≠ a := by
    rcases ha with z | z
    · rw [z]; exact f.2.1
    · exact fun w => f.2.2.2.2.1 y a z w.symm
  have hn6 : s6.heap.Ns C m := hn.sameBut sb nC
  exact ⟨m, hn6, fun h' sb' => ⟨_, H4, I6.gone f sb', q⟩⟩
end L2
end
section
set_option maxHeartbeats 4000001
namespace Own
open PySem PySem.Spec PyProof.Rows
section
variable {M : Model} {prog : Program} {w : World} {A : Around} {E : Value → Shared → Prop} {s : Shared} {α : Type} {Q : α → Shared → Prop}
theorem rf {a : Addr} {o : Obj} {vs : Array Value} {x : Value} {f : Value → Sem α} (k : Nat) (ho : s.heap.get? a = some o) (hd : o.data = .fields vs) (hx : vs[k]? = some x) (h : wpAny M A (f x) Q E s) :
    wpAny M A (field (.ref a) k >>= f) Q E s := wpAny_bind (wpAny_field ho hd hx h)
theorem nx {T id : String} {B : Builtin} {it : Addr} {P : Value → Shared → Prop} (slot : Slot T "__next__" id) (ty : s.TypeIs (.ref it) T) (en : entryFor table id = some B) (ok : argsOk id ⟨[.ref it], []⟩)
    (h : wpAny (model prog w) A.in1 (B ⟨[.ref it], []⟩) (fun r s' => ∃ v, r = .done (.ret v) ∧ P v s') E s) : wpAny (model prog w) A (Builtin.SmallTypes.nextOf (.ref it)) P E s := by
  unfold Builtin.SmallTypes.nextOf; refine wpAny_bind (wpAny_callSpecial?_slot (name := "__next__") ty slot (wpAny_call_entry slot ty en (thn2 h) ok))
where
  thn2 {B' : Sem Fin} {P : Value → Shared → Prop} {A' : Around} (h : wpAny (model prog w) A' B' (fun r s' => ∃ v, r = .done (.ret v) ∧ P v s') E s) :
      wpAny (model prog w) A' B' (fun r s' => ∃ v, r = .done (.ret v) ∧ wpAny (model prog w) A (pure v) P E s') E s :=
    wpAny_mono h (fun _ _ ⟨v, e, q⟩ => ⟨v, e, wpAny_pure q⟩) fun _ _ z => z
end
theorem ends {A : Around} {E : Value → Shared → Prop} {prog : Program} {w : World} {s : Shared} {α : Type} {Q : α → Shared → Prop} (hh : A.handled = none)
    (h : ∀ h' x, (∀ b o, s.heap.get? b = some o → h'.get? b = some o) → (∃ o, h'.get? x = some o ∧ o.cls = .type "StopIteration") → E (.ref x) { s with heap := h' }) :
    wpAny (model prog w) A (Builtin.SmallTypes.stopIteration : Sem α) Q E s := by
  unfold Builtin.SmallTypes.stopIteration newExc newTuple
  refine wpAny_bind (wpAny_bind (wpAny_newObj_type ?_ (by size_fits)))
  refine wpAny_bind (wpAny_of_eq (a := Value.none) (by rfl) (wpAny_newObj_type (wpAny_raiseNew_none hh (h _ _ (fun b o e => ?_) ⟨_, Heap.get?_push_size _ rfl, rfl⟩)) (by size_fits)))
  exact Heap.get?_push_of_some _ (Heap.get?_push_of_some _ e)
def cN : Bool → String
  | true => "list_iterator"
  | false => "tuple_iterator"
abbrev RIt (b : Bool) (h : Heap) (it a : Addr) (i : Int) : Prop := h.get? it = some { cls := .type (cN b), dict := none, data := .fields #[.ref a, .int i 0], slots := #[] }
def SqO : Bool → Heap → Addr → Array Value → Prop
  | true, h, a, xs => h.IsList a xs
  | false, h, a, xs => h.IsTuple a xs
theorem SqO.ob {b : Bool} {h : Heap} {a : Addr} {xs : Array Value} (x : SqO b h a xs) : ∃ o n, h.get? a = some o ∧ o.data = .seq xs n := by
  cases b <;> (obtain ⟨o, e, _, n, d⟩ := x; exact ⟨o, n, e, d⟩)
theorem SqO.mv {b : Bool} {h h' : Heap} {a : Addr} {xs : Array Value} (x : SqO b h a xs) (k : ∀ o, h.get? a = some o → h'.get? a = some o) : SqO b h' a xs := by
  cases b <;> (obtain ⟨o, e, r⟩ := x; exact ⟨o, k o e, r⟩)
theorem SqO.ne {b b' : Bool} {h : Heap} {a it a' : Addr} {i : Int} {xs : Array Value} (x : SqO b h a xs) (y : RIt b' h it a' i) : a ≠ it := fun z => by
  obtain ⟨o, n, e, d⟩ := x.ob
  rw [z, y] at e; cases e; cases d
section
variable {prog : Program} {w : World} {A : Around} {E : Value → Shared → Prop} {s : Shared}
theorem ty {b : Bool} {it a : Addr} {i : Int} (y : RIt b s.heap it a i) : s.TypeIs (.ref it) (cN b) := ⟨_, y, rfl⟩
theorem rise_go {b : Bool} {it a : Addr} {i : Nat} {xs : Array Value} {x : Value} {P : Value → Shared → Prop} {B : Builtin} (hB : B = match b with | true => Builtin.«list_iterator.__next__» | false => Builtin.«tuple_iterator.__next__»)
    (y : RIt b s.heap it a i) (sq : SqO b s.heap a xs) (hx : xs[i]? = some x) (h : ∀ h', RIt b h' it a (i + 1) → Heap.SameBut it s.heap h' → P x { s with heap := h' }) :
    wpAny (model prog w) A (B ⟨[.ref it], []⟩) (fun r s' => ∃ v, r = .done (.ret v) ∧ P v s') E s := by
  obtain ⟨o, n, e, d⟩ := sq.ob
  have fin : wpAny (model prog w) A (match xs[(i : Int).toNat]? with
      | some x => (do setField (.ref it) 1 (rawInt ((i : Int) + 1)); ret x : Sem Fin)
      | none => Builtin.SmallTypes.stopIteration) (fun r s' => ∃ v, r = .done (.ret v) ∧ P v s') E s := by
    rw [Int.toNat_natCast, hx]
    exact wpAny_bind (wpAny_setField_rec y (show 1 < 2 by decide) fun h' y' sb => wpAny_pure ⟨x, rfl, h h' y' sb⟩)
  rw [Int.toNat_natCast, hx] at fin
  subst hB
  cases b <;>
  · refine rf 0 y rfl rfl (PyIte (show ¬ ((Value.ref a == Value.none) = true) from Bool.false_ne_true) (rf 1 y rfl rfl (wpAny_bind (wpAny_seqItems e d ?_))))
    simp only [Int.toNat_natCast, hx]; exact fin
where
  PyIte {c : Prop} [Decidable c] {α : Type} {a b : Sem α} {M : Model} {A : Around} {Q : α → Shared → Prop} {E : Value → Shared → Prop} {s : Shared} (hc : ¬ c) (h : wpAny M A b Q E s) : wpAny M A (if c then a else b) Q E s := by
    rw [if_neg hc]; exact h
theorem rise_stop {b : Bool} {it a : Addr} {i : Nat} {xs : Array Value} {Q : Fin → Shared → Prop} {B : Builtin} (hB : B = match b with | true => Builtin.«list_iterator.__next__» | false => Builtin.«tuple_iterator.__next__»)
    (hh : A.handled = none) (y : RIt b s.heap it a i) (sq : SqO b s.heap a xs) (hx : xs[i]? = none)
    (h : ∀ h' x, (∀ c o, c ≠ it → s.heap.get? c = some o → h'.get? c = some o) → (∃ o, h'.get? x = some o ∧ o.cls = .type "StopIteration") → E (.ref x) { s with heap := h' }) :
    wpAny (model prog w) A (B ⟨[.ref it], []⟩) Q E s := by
  obtain ⟨o, n, e, d⟩ := sq.ob
  subst hB
  cases b <;>
  · refine rf 0 y rfl rfl (rise_go.PyIte (show ¬ ((Value.ref a == Value.none) = true) from Bool.false_ne_true) (rf 1 y rfl rfl (wpAny_bind (wpAny_seqItems e d ?_))))
    simp only [Int.toNat_natCast, hx]; refine wpAny_bind (wpAny_rule (wpAny_bind (wpAny_setField_rec y (show 0 < 2 by decide) fun h1 _ sb => ?_)))
    exact ends hh fun h2 x k z => h h2 x (fun c o hc q => k c o ((sb.2 c hc).trans q)) z
theorem next_go {b : Bool} {it a : Addr} {i : Nat} {xs : Array Value} {x : Value} {P : Value → Shared → Prop} (y : RIt b s.heap it a i) (sq : SqO b s.heap a xs) (hx : xs[i]? = some x)
    (h : ∀ h', RIt b h' it a (i + 1) → Heap.SameBut it s.heap h' → P x { s with heap := h' }) : wpAny (model prog w) A (Builtin.SmallTypes.nextOf (.ref it)) P E s := by
  cases b
  · exact nx F.slot_tuple_iterator_next (ty y) F.entry_tuple_iterator_next (F.args_tuple_iterator_next_1 _) (rise_go (b := false) rfl y sq hx h)
  · exact nx slot_listiter_next (ty y) entry_listiter_next (args_listiter_next _) (rise_go (b := true) rfl y sq hx h)
theorem next_stop {b : Bool} {it a : Addr} {i : Nat} {xs : Array Value} {P : Value → Shared → Prop} (hh : A.handled = none) (y : RIt b s.heap it a i) (sq : SqO b s.heap a xs) (hx : xs[i]? = none)
    (h : ∀ h' x, (∀ c o, c ≠ it → s.heap.get? c = some o → h'.get? c = some o) → (∃ o, h'.get? x = some o ∧ o.cls = .type "StopIteration") → E (.ref x) { s with heap := h' }) :
    wpAny (model prog w) A (Builtin.SmallTypes.nextOf (.ref it)) P E s := by
  have inner : A.in1.handled = none := hh
  cases b
  · exact nx F.slot_tuple_iterator_next (ty y) F.entry_tuple_iterator_next (F.args_tuple_iterator_next_1 _) (rise_stop (b := false) rfl inner y sq hx h)
  · exact nx slot_listiter_next (ty y) entry_listiter_next (args_listiter_next _) (rise_stop (b := true) rfl inner y sq hx h)
theorem iter_of {b : Bool} {a : Addr} {xs : Array Value} {P : Value → Shared → Prop} (sq : SqO b s.heap a xs)
    (h : P (.ref s.heap.objs.size) { s with heap := s.heap.push { cls := .type (cN b), data := .fields #[.ref a, .int 0 0] } }) : wpAny (model prog w) A (pyIter (.ref a)) P E s := by
  cases b
  · exact wpAny_pyIter_tuple sq h
  · exact wpAny_pyIter_list sq h
end
theorem draws {prog : Program} {w : World} {A : Around} (hh : A.handled = none) (b : Bool) (it a : Addr) (xs : Array Value) (hne : a ≠ it) :
    Draws prog w A it [it, a] xs.size (fun i v => xs[i]? = some v) (fun i h => RIt b h it a i ∧ SqO b h a xs) :=
  ⟨fun _ _ st => ⟨_, st.1⟩, fun _ _ _ st k => ⟨k it List.mem_cons_self _ st.1, st.2.mv fun o e => k a (List.mem_cons_of_mem _ List.mem_cons_self) o e⟩,
    fun i s Q E hi st k => next_go st.1 st.2 (Array.getElem?_eq_getElem hi) fun h' y sb => k _ h' s.toks (Array.getElem?_eq_getElem hi) ⟨y, st.2.mv fun o e => (sb.2 a hne).trans e⟩ sb,
    fun s Q E st k => next_stop hh st.1 st.2 (by simp) fun h' x kk z => k h' x (fun c o hc q => kk c o hc q) z⟩
theorem enum_new (b : Bool) (a : Addr) (o : Obj) (xs : Array Value) :
    Meets (Builtin.«enumerate.__new__» ⟨[.type "enumerate", .ref a], []⟩) (fun _ R s => s.heap.get? a = some o ∧ SqO b s.heap a xs ∧
      R (.ok (.ret (.ref (s.heap.push { cls := .type (cN b), data := .fields #[.ref a, .int 0 0] }).objs.size)))
        { s with heap := (s.heap.push { cls := .type (cN b), data := .fields #[.ref a, .int 0 0] }).push { cls := .type "enumerate", data := .fields #[.none, .bool false, .ref s.heap.objs.size, rawInt 0, .none, .none] } }) :=
  .of_wp fun prog w A R s h => by
    obtain ⟨hp, g, d, tk, os⟩ := s; obtain ⟨ho, sq, h⟩ := h
    have sub := sub_enumerate
    have sq' : SqO b (Shared.heap ⟨hp, g, d, tk, os⟩) a xs := sq
    wp_walk using AutoSeq1.wpAny_loadPart' ho; refine wpAny_stack_any fun st => wpAny_pure ?_
    split
    case h_1 c _ _ _ _ _ =>
      cases (c == Value.type "enumerate") <;> (wp_walk using AutoSeq1.wpAny_loadPart' ho, iter_of sq'; exact ⟨_, rfl, h⟩)
    all_goals (wp_walk using AutoSeq1.wpAny_loadPart' ho, iter_of sq'; exact ⟨_, rfl, h⟩)

theorem call_enum {prog : Program} {w : World} {A : Around} {E : Value → Shared → Prop} {s : Shared} {b : Bool} {a : Addr} {xs : Array Value} {P : Value → Shared → Prop} (sq : SqO b s.heap a xs)
    (h : ∀ h' e it, s.heap.objs.size ≤ e → s.heap.objs.size ≤ it → e ≠ it → IsEnum h' e it 0 .none → RIt b h' it a 0 → (∀ c o, s.heap.get? c = some o → h'.get? c = some o) → P (.ref e) { s with heap := h' }) :
    wpAny (model prog w) A (call (.type "enumerate") [.ref a]) P E s := by
  obtain ⟨o, n, ho, _⟩ := sq.ob
  refine callType_new F.called_enumerate (by decide) (F.typeCall_enumerate_1 _) (F.newCall_enumerate_1 _) (fun obj => F.args_object_init_2 obj _) F.entry_enumerate_new (enum_new b a o xs) ⟨ho, sq, ⟨_, Heap.get?_push_size _ rfl, rfl⟩, ?_⟩
  refine h _ _ _ ?_ (Nat.le_refl _) ?_ (Heap.get?_push_size _ rfl) (Heap.get?_push_of_some _ (Heap.get?_push_size _ rfl)) fun c o e => Heap.get?_push_of_some _ (Heap.get?_push_of_some _ e)
  · rw [Heap.size_push]; exact Nat.le_succ _
  · rw [Heap.size_push]; exact Nat.succ_ne_self _
structure Sep (z TI TO i1 i2 : Addr) (f1 f2 : List Addr) : Prop where
  all : [z, TI, TO, i1, i2].Nodup
  z1 : z ∉ f1
  t1 : TO ∉ f1
  o1 : i2 ∉ f1
  z2 : z ∉ f2
  t2 : TO ∉ f2
  o2 : i1 ∉ f2
section
variable {prog : Program} {w : World} {A : Around} {E : Value → Shared → Prop} {s : Shared} {z TI TO i1 i2 : Addr} {f1 f2 : List Addr} {n1 n2 k : Nat} {P1 P2 : Nat → Value → Prop} {S1 S2 : Nat → Heap → Prop} {a b : Value}
theorem zip_step (S : Sep z TI TO i1 i2 f1 f2) (D1 : Draws prog w A i1 f1 n1 P1 S1) (D2 : Draws prog w A i2 f2 n2 P2 S2) {Q : Value → Shared → Prop}
    (hz : IsZip s.heap z TI TO .none) (hI : IsPair s.heap TI (.ref i1) (.ref i2)) (hO : IsPair s.heap TO a b) (d1 : S1 k s.heap) (d2 : S2 k s.heap) (l1 : k < n1) (l2 : k < n2)
    (h : ∀ x y h' tk, P1 k x → P2 k y → IsZip h' z TI TO (rawInt s.heap.objs.size) → IsPair h' TO x y → S1 (k + 1) h' → S2 (k + 1) h' → IsPair h' s.heap.objs.size x y →
      (∀ c o, c ∉ [z, TO, i1, i2] → s.heap.get? c = some o → h'.get? c = some o) → Q (.ref s.heap.objs.size) { s with heap := h', toks := tk }) :
    wpAny (model prog w) A (Builtin.«zip.__next__» ⟨[.ref z], []⟩) (fun r s' => ∃ v, r = .done (.ret v) ∧ Q v s') E s := by
  have nd := S.all
  simp only [List.nodup_cons, List.mem_cons, List.not_mem_nil, or_false, not_or] at nd
  obtain ⟨⟨zI, zO, z1, z2⟩, ⟨IO, I1, I2⟩, ⟨O1, O2⟩, n12, _⟩ := nd
  refine rf 2 hz rfl rfl (rf 3 hz rfl rfl (wpAny_bind (wpAny_seqItems hI rfl (wpAny_bind (rf 0 hz rfl rfl (wpAny_pure ?_))))))
  simp only [if_true]
  refine wpAny_bind (wpAny_rule (rf 4 hz rfl rfl (wpAny_bind (wpAny_setField_rec hz (show 0 < 5 by decide) fun ha za sa => wpAny_bind ?_))))
  have za' : IsZip ha z TI TO .ellipsis := za; simp only [List.zipIdx_cons, List.zipIdx_nil, List.forIn_cons, List.forIn_nil]
  refine wpAny_bind (wpAny_bind (wpAny_onRaise (wpAny_bind (D1.item k _ _ _ l1 (D1.frame _ _ _ d1 fun c hc o e => (sa.2 c fun q => S.z1 (q ▸ hc)).trans e) fun x hb tb px db sb => wpAny_pure ?_))))
  have Ob : IsPair hb TO a b := (sb.2 TO O1).trans ((sa.2 TO (Ne.symm zO)).trans hO)
  refine wpAny_bind (wpAny_seqItems Ob rfl (wpAny_bind (wpAny_updateSeq_pair Ob fun hc Oc sc => wpAny_bind (wpAny_letGo (wpAny_pure ?_)))))
  have Oc' : IsPair hc TO x b := Oc
  have st2 : S2 k hc := D2.frame _ _ _ d2 fun c hm o e => (sc.2 c fun q => S.t2 (q ▸ hm)).trans ((sb.2 c fun q => S.o2 (q ▸ hm)).trans ((sa.2 c fun q => S.z2 (q ▸ hm)).trans e))
  refine wpAny_bind (wpAny_bind (wpAny_onRaise (wpAny_bind (D2.item k _ _ _ l2 st2 fun y hd td py dd sd => wpAny_pure ?_))))
  have Od : IsPair hd TO x b := (sd.2 TO O2).trans Oc'
  refine wpAny_bind (wpAny_seqItems Od rfl (wpAny_bind (wpAny_updateSeq_pair Od fun he Oe se => wpAny_bind (wpAny_letGo (wpAny_pure (wpAny_pure ?_))))))
  have Oe' : IsPair he TO x y := Oe
  refine wpAny_bind (wpAny_seqItems Oe' rfl (wpAny_bind (wpAny_newTuple (wpAny_bind ?_))))
  have sz : he.objs.size = s.heap.objs.size := by rw [se.1, sd.1, sc.1, sb.1, sa.1]
  have ze : IsZip he z TI TO .ellipsis := (se.2 z zO).trans ((sd.2 z z2).trans ((sc.2 z zO).trans ((sb.2 z z1).trans za')))
  have zn : he.objs.size ≠ z := Nat.ne_of_gt (Heap.lt_size ze)
  unfold Builtin.SmallTypes.ownedTupleHandOut; refine wpAny_bind (wpAny_setField_rec (Heap.get?_push_of_some _ ze) (show 0 < 5 by decide) fun hf zf sf => wpAny_setField_rec zf (show 1 < 5 by decide) fun hg zg sg => wpAny_pure ⟨_, rfl, ?_⟩)
  have up : ∀ c o, c ≠ z → he.get? c = some o → hg.get? c = some o := fun c o q e => (sg.2 c q).trans ((sf.2 c q).trans (Heap.get?_push_of_some _ e))
  have new : IsPair hg he.objs.size x y := (sg.2 _ zn).trans ((sf.2 _ zn).trans (Heap.get?_push_size _ rfl))
  have zg' : IsZip hg z TI TO (rawInt he.objs.size) := zg
  rw [sz] at new zg'
  show Q (.ref he.objs.size) _
  rw [sz]
  refine h x y hg td px py zg' (up _ _ (Ne.symm zO) Oe') ?_ ?_ new fun c o hc e => ?_
  · exact D1.frame _ _ _ db fun c hm o e => up c o (fun q => S.z1 (q ▸ hm)) ((se.2 c fun q => S.t1 (q ▸ hm)).trans ((sd.2 c fun q => S.o1 (q ▸ hm)).trans ((sc.2 c fun q => S.t1 (q ▸ hm)).trans e)))
  · exact D2.frame _ _ _ dd fun c hm o e => up c o (fun q => S.z2 (q ▸ hm)) ((se.2 c fun q => S.t2 (q ▸ hm)).trans e)
  · simp only [List.mem_cons, List.not_mem_nil, or_false, not_or] at hc
    obtain ⟨c1, c2, c3, c4⟩ := hc
    exact up c o c1 ((se.2 c c2).trans ((sd.2 c c4).trans ((sc.2 c c2).trans ((sb.2 c c3).trans ((sa.2 c c1).trans e)))))
end
end Own
end
section
set_option maxHeartbeats 4000001
namespace Own
open PySem PySem.Spec PyProof.Rows
section
variable {prog : Program} {w : World} {A : Around} {E : Value → Shared → Prop} {s : Shared} {z TI TO i1 i2 : Addr} {f1 f2 : List Addr} {n1 n2 k : Nat} {P1 P2 : Nat → Value → Prop} {S1 S2 : Nat → Heap → Prop} {a b : Value}
theorem zip_stop (S : Sep z TI TO i1 i2 f1 f2) (D1 : Draws prog w A i1 f1 n1 P1 S1) {Q : Fin → Shared → Prop} (hz : IsZip s.heap z TI TO .none) (hI : IsPair s.heap TI (.ref i1) (.ref i2)) (d1 : S1 n1 s.heap)
    (h : ∀ h' x, (∀ c o, c ∉ [z, TO, i1, i2] → s.heap.get? c = some o → h'.get? c = some o) → (∃ o, h'.get? x = some o ∧ o.cls = .type "StopIteration") → E (.ref x) { s with heap := h' }) : wpAny (model prog w) A (Builtin.«zip.__next__» ⟨[.ref z], []⟩) Q E s := by
  have nd := S.all
  simp only [List.nodup_cons, List.mem_cons, List.not_mem_nil, or_false, not_or] at nd
  obtain ⟨⟨zI, zO, z1, z2⟩, ⟨IO, I1, I2⟩, ⟨O1, O2⟩, n12, _⟩ := nd
  refine rf 2 hz rfl rfl (rf 3 hz rfl rfl (wpAny_bind (wpAny_seqItems hI rfl (wpAny_bind (rf 0 hz rfl rfl (wpAny_pure ?_))))))
  simp only [if_true]
  refine wpAny_bind (wpAny_rule (rf 4 hz rfl rfl (wpAny_bind (wpAny_setField_rec hz (show 0 < 5 by decide) fun ha za sa => wpAny_bind ?_))))
  have za' : IsZip ha z TI TO .ellipsis := za; simp only [List.zipIdx_cons, List.zipIdx_nil, List.forIn_cons, List.forIn_nil]
  refine wpAny_bind (wpAny_bind (wpAny_onRaise (wpAny_bind (D1.done _ _ _ (D1.frame _ _ _ d1 fun c hc o e => (sa.2 c fun q => S.z1 (q ▸ hc)).trans e) fun hb x kb ⟨ox, ex, cx⟩ => ?_))))
  have zb : IsZip hb z TI TO .ellipsis := kb z _ z1 za'
  have xz : x ≠ z := fun q => by rw [q, zb] at ex; cases ex; exact absurd (show Value.type "zip" = Value.type "StopIteration" from cx) (by decide)
  refine wpAny_setField_rec zb (show 0 < 5 by decide) fun hc _ sc => h hc x (fun c o hm e => ?_) ⟨ox, (sc.2 x xz).trans ex, cx⟩
  simp only [List.mem_cons, List.not_mem_nil, or_false, not_or] at hm
  exact (sc.2 c hm.1).trans (kb c o hm.2.2.1 ((sa.2 c hm.1).trans e))
end
theorem zip_new (b1 b2 : Bool) (a1 a2 : Addr) (xs ys : Array Value) : Meets (Builtin.«zip.__new__» ⟨[.type "zip", .ref a1, .ref a2], []⟩) (fun _ R s => SqO b1 s.heap a1 xs ∧ SqO b2 s.heap a2 ys ∧
    ∀ h' z, (∃ TI TO i1 i2, [z, TI, TO, i1, i2].Nodup ∧ (∀ c ∈ [z, TI, TO, i1, i2], s.heap.objs.size ≤ c) ∧ IsZip h' z TI TO .none ∧ IsPair h' TI (.ref i1) (.ref i2) ∧ IsPair h' TO .none .none ∧ RIt b1 h' i1 a1 0 ∧ RIt b2 h' i2 a2 0) →
      (∀ c o, s.heap.get? c = some o → h'.get? c = some o) → R (.ok (.ret (.ref z))) { s with heap := h' }) :=
  .of_wp fun prog w A R s h => by
    obtain ⟨hp, g, d, tk, os⟩ := s; obtain ⟨q1, q2, h⟩ := h
    have sub := sub_zip
    have r1 : SqO b1 (Shared.heap ⟨hp, g, d, tk, os⟩) a1 xs := q1
    have r2 : SqO b2 (Shared.heap ⟨hp.push { cls := .type (cN b1), data := .fields #[.ref a1, .int 0 0] }, g, d, tk, os⟩) a2 ys := q2.mv fun o e => Heap.get?_push_of_some _ e
    wp_walk using iter_of r1, iter_of r2
    refine ⟨_, rfl, h _ _ ⟨_, _, _, _, ?_, ?_, Heap.get?_push_size _ rfl, Heap.get?_push_of_some _ (Heap.get?_push_of_some _ (Heap.get?_push_size _ rfl)), Heap.get?_push_of_some _ (Heap.get?_push_size _ rfl),
      Heap.get?_push_of_some _ (Heap.get?_push_of_some _ (Heap.get?_push_of_some _ (Heap.get?_push_of_some _ (Heap.get?_push_size _ rfl)))), Heap.get?_push_of_some _ (Heap.get?_push_of_some _ (Heap.get?_push_of_some _ (Heap.get?_push_size _ rfl)))⟩ fun c o e => ?_⟩
    · simp only [Heap.size_push, List.nodup_cons, List.mem_cons, List.not_mem_nil, or_false, not_or]
      simp <;> lia
    · simp only [Heap.size_push, List.mem_cons, List.not_mem_nil, or_false]
      intro c hc
      have : hp.objs.size ≤ c := by lia
      exact this
    · exact Heap.get?_push_of_some _ (Heap.get?_push_of_some _ (Heap.get?_push_of_some _ (Heap.get?_push_of_some _ (Heap.get?_push_of_some _ e))))
end Own
end
section
set_option maxHeartbeats 4000001
namespace L2
open PySem PySem.Spec PyProof.Rows Own
section
variable {X : Cx} {pins : List (Addr × Obj)} {σ : St} {H : Hp} {s : Shared} {h' : Heap}
theorem Inv.spunN {fp : List Addr} {T : Addr} {o : HO} {t' : Nat} (I : Inv X pins σ H s) (k : ∀ b o, b ∉ fp → s.heap.get? b = some o → h'.get? b = some o) (hf : ∀ b ∈ fp, FpOk X pins H b) (hT : s.heap.objs.size ≤ T)
    (new : ObjOk X.prog X.w (upd H T o) h' T o) : Inv X pins σ (upd H T o) { s with heap := h', toks := t' } := by
  have hn : H T = none := I.hok.fresh hT
  have neT : ∀ b u, s.heap.get? b = some u → b ≠ T := fun b u e => Nat.ne_of_lt (Nat.lt_of_lt_of_le (Heap.lt_size e) hT)
  have nfp : ∀ b u, H b = some u → b ∉ fp := fun b u e hb => by rw [(hf b hb).1] at e; cases e
  refine I.step (g' := s.gens) (d' := s.drawn) (ch := fp) (fun b hb => ?_) (fun b o _ _ hc e _ => k b o hc e) (fun b o _ _ hc e _ => ⟨o.slots, k b o hc e⟩) (fun b o _ e n => by rw [upd_ne (neT b o e)]; exact n)
    (fun b o hc e => ⟨o, k b o hc e⟩) (fun b xs e => by rw [upd_ne (ne_of_none e hn)]; exact e) (fun b o u e => by rw [upd_ne (ne_of_none e hn)]; exact e) (fun b ps e => ⟨#[], by rw [upd_ne (ne_of_none e hn), e]; simp⟩) (fun m hm => ?_) (fun b u e => ?_) I.bare
  · obtain ⟨f0, f1, f2, f3, f4, f5⟩ := hf b hb
    exact ⟨f3, f1, f4, f5⟩
  · obtain ⟨o, es, ep, ho, r⟩ := hm
    exact ⟨o, es, ep, k _ o (fun hb => (hf _ hb).2.1 rfl) ho, r⟩
  · by_cases hb : b = T
    · subst hb; rw [upd_same] at e; cases e; exact new
    · rw [upd_ne hb] at e
      refine (I.hok b u e).stay (fun c v hc q => k c v ?_ q) (fun c q => by rw [upd_ne (ne_of_none q hn)]; exact q) fun c xs q => by rw [upd_ne (ne_of_none q hn)]; exact q
      rcases hc with z | z
      · rw [z]; exact nfp b u e
      · exact nfp c _ z
theorem Inv.spun {fp : List Addr} {t' : Nat} (I : Inv X pins σ H s) (k : ∀ b o, b ∉ fp → s.heap.get? b = some o → h'.get? b = some o) (hf : ∀ b ∈ fp, FpOk X pins H b) : Inv X pins σ H { s with heap := h', toks := t' } := by
  have nfp : ∀ b u, H b = some u → b ∉ fp := fun b u e hb => by rw [(hf b hb).1] at e; cases e
  refine I.step (g' := s.gens) (d' := s.drawn) (ch := fp) (fun b hb => ?_) (fun b o _ _ hc e _ => k b o hc e) (fun b o _ _ hc e _ => ⟨o.slots, k b o hc e⟩) (fun b o _ e n => n)
    (fun b o hc e => ⟨o, k b o hc e⟩) (fun b xs e => e) (fun b o u e => e) (fun b ps e => ⟨#[], by rw [e]; simp⟩) (fun m hm => ?_) (fun b u e => ?_) I.bare
  · obtain ⟨f0, f1, f2, f3, f4, f5⟩ := hf b hb
    exact ⟨f3, f1, f4, f5⟩
  · obtain ⟨o, es, ep, ho, r⟩ := hm
    exact ⟨o, es, ep, k _ o (fun hb => (hf _ hb).2.1 rfl) ho, r⟩
  · refine (I.hok b u e).stay (fun c v hc q => k c v ?_ q) (fun c q => q) fun c xs q => q
    rcases hc with z | z
    · rw [z]; exact nfp b u e
    · exact nfp c _ z
end
def SqB : Bool → PySem.W.Frag → Hp → Addr → List V → Prop
  | true, K, H, a, xs => SqL K H a xs
  | false, K, H, a, xs => SqT K H a xs
section
variable {X : Cx} {pins : List (Addr × Obj)} {σ : St} {H : Hp} {s : Shared} {a c : Addr} {xs ys : List V} {b : Bool}
theorem Inv.sq (I : Inv X pins σ H s) (h : SqB b X.K H a xs) : ∃ its : List Value, Vals xs its ∧ SqO b s.heap a its.toArray := by
  cases b
  · obtain ⟨its, r, p, z⟩ := I.tuple h
    exact ⟨its, r, p⟩
  · obtain ⟨its, r, p, z⟩ := I.list h
    exact ⟨its, r, p.isList⟩
theorem Inv.sq_inj (I : Inv X pins σ H s) (h : SqB b X.K H a xs) (h' : SqB b X.K H a ys) : xs = ys := by
  cases b
  · exact I.tuple_inj h h'
  · exact I.list_inj h h'
theorem Inv.sq_ne (I : Inv X pins σ H s) (h : SqB b X.K H a xs) (f : FpOk X pins H c) : c ≠ a := by
  rintro rfl
  have inK : ∀ o, X.K.lookup c = some o → False := fun o e => by
    have e1 := I.ok.mod.kin c o e
    rcases f.2.2.2.1 with z | z
    · exact I.ok.noex c o e1 z
    · exact absurd (Nat.lt_of_lt_of_le (Heap.lt_size e1) (Nat.le_trans I.ok.bsz z)) (Nat.lt_irrefl _)
  cases b <;>
  · rcases h with (h | ⟨o, h⟩) | ⟨o, _, _, e, _⟩
    · rw [f.1] at h; cases h
    · rw [f.1] at h; cases h
    · exact inK o e
end
def Pr (v u : V) (H : Hp) (x : V) (H' : Hp) : Prop := ∃ T, H T = none ∧ x = .ref T ∧ H' = upd H T (.tup [v, u])
theorem pair_ok {P : Program} {w : World} {H : Hp} {h : Heap} {T : Addr} {v u : V} {a b : Value} (e : IsPair h T a b) (rv : RelV v a) (ru : RelV u b) : ObjOk P w (upd H T (.tup [v, u])) h T (.tup [v, u]) :=
  ⟨show 2 ≤ sizeLine by decide, [a, b], .cons rv (.cons ru .nil), ⟨_, e, rfl, _, rfl, rfl⟩⟩
def Ite (K : PySem.W.Frag) (b : Bool) (a : Addr) : It :=
  ⟨fun i H => ∃ xs x, SqB b K H a xs ∧ xs[i]? = some x, fun i H x H' => ∃ y, (∀ xs, SqB b K H a xs → xs[i]? = some y) ∧ Pr (.int i) y H x H', fun i H => ∃ xs, SqB b K H a xs ∧ xs.length = i⟩
theorem turn_enum {P : Program} {w : World} {K : PySem.W.Frag} {es : List Expr} {k1} {p1 : Pos} (b : Bool) (a e it : Addr) (hne : e ≠ it) : Turn P w K (.Tuple es k1 p1) (Ite K b a) [e, it] e (fun i h => (∃ old, IsEnum h e it i old) ∧ RIt b h it a i) where
  mem := List.mem_cons_self
  obj := fun i h ⟨⟨old, he⟩, hi⟩ c hc => by
    rcases List.mem_cons.mp hc with q | q
    · rw [q]; exact ⟨_, he, fun v z => by cases z⟩
    · rw [List.mem_singleton.mp q]; exact ⟨_, hi, fun v z => by cases z⟩
  keep := fun i h h' ⟨⟨old, he⟩, hi⟩ kk => ⟨⟨old, kk e (by simp) _ he⟩, kk it (by simp) _ hi⟩
  item := by
    intro X hP hw hK hc i pins s σ H E I hf ⟨⟨old, he⟩, hi⟩ ⟨xs, x, hq, hx⟩
    subst hP hw hK
    obtain ⟨its, rv, p⟩ := I.sq hq
    obtain ⟨u, hu, ru⟩ := rv.get hx
    have hlt : i < its.toArray.size := by simpa using (List.getElem?_eq_some_iff.mp hu).1
    refine wpAny_pyNext_enum_itemD (draws (prog := X.prog) (w := X.w) (A := X.A.in1) (I.ok.hd hc) b it a its.toArray (p.ne hi)) he ⟨hi, p⟩ hlt hne (by simp [hne, I.sq_ne hq (hf e (by simp))]) fun v h1 tk hv ho hs hT _ hk => ?_
    obtain rfl : u = v := Option.some.inj (hu.symm.trans (by simpa using hv))
    refine ⟨_, rfl, wpAny_letOwnedTupleGo_enum ho fun h2 he2 s2 => ?_⟩
    have nT : s.heap.objs.size ≠ e := Nat.ne_of_gt (Heap.lt_size he)
    have nI : s.heap.objs.size ≠ it := Nat.ne_of_gt (Heap.lt_size hi)
    refine ⟨.ref s.heap.objs.size, _, I.spunN (fp := [e, it]) (fun c o hm q => ?_) hf (Nat.le_refl _) (pair_ok (v := .int i) (u := x) ((s2.2 _ nT).trans hT) ⟨tk, rfl⟩ ru), rfl, ⟨x, fun ys hy => by rw [I.sq_inj hy hq]; exact hx, _, I.fresh, rfl, rfl⟩, ⟨⟨_, he2⟩, (s2.2 it (Ne.symm hne)).trans hs.1⟩, fun c hm => ?_⟩
    · have c1 : c ≠ e := fun z => hm (by simp [z])
      exact (s2.2 c c1).trans (hk c o c1 (fun z => hm (by simp [z])) q)
    · rw [upd_ne, (hf c hm).1]
      rintro rfl
      rcases List.mem_cons.mp hm with z | z
      · exact nT z
      · exact nI (List.mem_singleton.mp z)
  done := by
    intro X hP hw hK hc i pins s σ H E I hf ⟨⟨old, he⟩, hi⟩ ⟨xs, hq, hx⟩
    subst hP hw hK
    obtain ⟨its, rv, p⟩ := I.sq hq
    have hz : i = its.toArray.size := by rw [List.size_toArray, ← rv.length, hx]
    refine wpAny_pyNext_enum_endD (draws (prog := X.prog) (w := X.w) (A := X.A.in1) (I.ok.hd hc) b it a its.toArray (p.ne hi)) he ⟨by rw [← hz]; exact hi, p⟩ fun h' eb => ⟨rfl, I.spun (t' := s.toks) (fp := [e, it]) (fun c o hm q => eb c o (fun z => hm (by simp [z])) q) hf⟩
  self := fun _ _ _ _ _ ⟨⟨_, he⟩, _⟩ h => wpAny_pyIter_enum he h
def iEnum (K : PySem.W.Frag) (b : Bool) (ta : TA) : TI := fun σ H R => ta σ H fun vs H1 => ∃ a xs, vs = [.ref a] ∧ SqB b K H1 a xs ∧ R (Ite K b a) H1
theorem pi_enum {X : Cx} {a : Expr} {ta : TA} {p pos p1 : Pos} {es : List Expr} {k1} (b : Bool) (hg : Gl X "enumerate") (hm : X.mg "enumerate" = none) (ha : PA X [a] ta) (hs : starEach [a] X.env = [(false, eval a X.env)] := by rfl) :
    PI X (.Tuple es k1 p1) (.Call (.Name "enumerate" p) [a] [] pos) (iEnum X.K b ta) := by
  intro pins s σ H R I h
  refine Call_ (ld_blt I hg hm (u := .type "enumerate") (by rfl) (PyProof.Rows.callWith_type1 (thn (ha pos pins s σ H _ I h) fun us s1 ⟨vs, H1, I1, r1, q1⟩ => ?_) hs rfl))
  obtain ⟨a', xs, rfl, hq, q⟩ := q1
  obtain ⟨u, rfl, ru⟩ := r1.one
  cases ru
  obtain ⟨its, rv, pl⟩ := I1.sq hq
  refine call_enum pl fun h' e it l1 l2 ne he hi hk => wpAny_pyIter_enum he ⟨_, [e, it], _, _, H1, rfl, I1.kept (t' := s1.toks) hk, turn_enum b a' e it ne, ⟨⟨_, he⟩, hi⟩, fun c hc => ?_, q⟩
  have hc' : s1.heap.objs.size ≤ c := by
    rcases List.mem_cons.mp hc with z | z
    · rw [z]; exact l1
    · rw [List.mem_singleton.mp z]; exact l2
  exact I1.fpOk hc' (I1.hok.fresh hc')
def Itz (K : PySem.W.Frag) (b1 b2 : Bool) (a1 a2 : Addr) : It :=
  ⟨fun i H => ∃ xs ys x y, SqB b1 K H a1 xs ∧ SqB b2 K H a2 ys ∧ xs[i]? = some x ∧ ys[i]? = some y, fun i H v H' => ∃ x y, (∀ xs, SqB b1 K H a1 xs → xs[i]? = some x) ∧ (∀ ys, SqB b2 K H a2 ys → ys[i]? = some y) ∧ Pr x y H v H',
   fun i H => ∃ xs, SqB b1 K H a1 xs ∧ xs.length = i⟩
theorem turn_zip {P : Program} {w : World} {K : PySem.W.Frag} {es : List Expr} {k1} {p1 : Pos} (b1 b2 : Bool) (a1 a2 z TI TO i1 i2 : Addr) (nd : [z, TI, TO, i1, i2].Nodup) :
    Turn P w K (.Tuple es k1 p1) (Itz K b1 b2 a1 a2) [z, TI, TO, i1, i2] z (fun i h => IsZip h z TI TO .none ∧ IsPair h TI (.ref i1) (.ref i2) ∧ (∃ a b, IsPair h TO a b) ∧ RIt b1 h i1 a1 i ∧ RIt b2 h i2 a2 i) where
  mem := List.mem_cons_self
  obj := fun i h ⟨hz, hI, ⟨a, b, hO⟩, h1, h2⟩ c hc => by
    simp only [List.mem_cons, List.not_mem_nil, or_false] at hc
    rcases hc with rfl | rfl | rfl | rfl | rfl
    · exact ⟨_, hz, fun v q => by cases q⟩
    · exact ⟨_, hI, fun v q => by cases q⟩
    · exact ⟨_, hO, fun v q => by cases q⟩
    · exact ⟨_, h1, fun v q => by cases q⟩
    · exact ⟨_, h2, fun v q => by cases q⟩
  keep := fun i h h' ⟨hz, hI, ⟨a, b, hO⟩, h1, h2⟩ kk => ⟨kk z (by simp) _ hz, kk TI (by simp) _ hI, ⟨a, b, kk TO (by simp) _ hO⟩, kk i1 (by simp) _ h1, kk i2 (by simp) _ h2⟩
  item := by
    intro X hP hw hK hc i pins s σ H E I hf ⟨hz, hI, ⟨a, b, hO⟩, h1, h2⟩ ⟨xs, ys, x, y, q1, q2, hx, hy⟩
    subst hP hw hK
    obtain ⟨u1, r1, p1⟩ := I.sq q1
    obtain ⟨u2, r2, p2⟩ := I.sq q2
    obtain ⟨v1, e1, rx⟩ := r1.get hx
    obtain ⟨v2, e2, ry⟩ := r2.get hy
    have nd' := nd
    simp only [List.nodup_cons, List.mem_cons, List.not_mem_nil, or_false, not_or] at nd'
    obtain ⟨⟨zI, zO, z1, z2⟩, ⟨IO, I1, I2⟩, ⟨O1, O2⟩, n12, _⟩ := nd'
    have na1 : ∀ c ∈ [z, TI, TO, i1, i2], c ≠ a1 := fun c hm => I.sq_ne q1 (hf c hm)
    have na2 : ∀ c ∈ [z, TI, TO, i1, i2], c ≠ a2 := fun c hm => I.sq_ne q2 (hf c hm)
    have S : Sep z TI TO i1 i2 [i1, a1] [i2, a2] := ⟨nd, by simp [z1, na1 z (by simp)], by simp [O1, na1 TO (by simp)], by simp [Ne.symm n12, na1 i2 (by simp)], by simp [z2, na2 z (by simp)], by simp [O2, na2 TO (by simp)], by simp [n12, na2 i1 (by simp)]⟩
    have hd := I.ok.hd hc
    have D1 := draws (prog := X.prog) (w := X.w) (A := X.A.in1) hd b1 i1 a1 u1.toArray (p1.ne h1)
    have D2 := draws (prog := X.prog) (w := X.w) (A := X.A.in1) hd b2 i2 a2 u2.toArray (p2.ne h2)
    have tyz : s.TypeIs (.ref z) "zip" := ⟨_, hz, rfl⟩
    unfold pyNext
    refine wpAny_bind (wpAny_attempt (wpAny_callSpecial?_slot (name := "__next__") tyz F.slot_zip_next (wpAny_call_entry F.slot_zip_next tyz F.entry_zip_next (zip_step S D1 D2 hz hI hO ⟨h1, p1⟩ ⟨h2, p2⟩ (by simpa using (List.getElem?_eq_some_iff.mp e1).1) (by simpa using (List.getElem?_eq_some_iff.mp e2).1)
      fun w1 w2 h' tk hw1 hw2 zh Oh d1 d2 new hk => wpAny_pure ?_) (F.args_zip_next_1 _))))
    obtain rfl : v1 = w1 := Option.some.inj (e1.symm.trans (by simpa using hw1))
    obtain rfl : v2 = w2 := Option.some.inj (e2.symm.trans (by simpa using hw2))
    refine ⟨_, rfl, wpAny_letOwnedTupleGo_zip zh fun h3 z3 s3 => ?_⟩
    have nz : s.heap.objs.size ≠ z := Nat.ne_of_gt (Heap.lt_size hz)
    have far : ∀ c ∈ [z, TI, TO, i1, i2], c ≠ s.heap.objs.size := fun c hm => by
      simp only [List.mem_cons, or_false, List.not_mem_nil] at hm
      rcases hm with rfl | rfl | rfl | rfl | rfl
      · exact Nat.ne_of_lt (Heap.lt_size hz)
      · exact Nat.ne_of_lt (Heap.lt_size hI)
      · exact Nat.ne_of_lt (Heap.lt_size hO)
      · exact Nat.ne_of_lt (Heap.lt_size h1)
      · exact Nat.ne_of_lt (Heap.lt_size h2)
    refine ⟨.ref s.heap.objs.size, _, I.spunN (fp := [z, TI, TO, i1, i2]) (fun c o hm q => ?_) hf (Nat.le_refl _) (pair_ok ((s3.2 _ nz).trans new) rx ry), rfl, ⟨x, y, fun l hl => by rw [I.sq_inj hl q1]; exact hx, fun l hl => by rw [I.sq_inj hl q2]; exact hy, _, I.fresh, rfl, rfl⟩,
      ⟨z3, (s3.2 _ (Ne.symm zI)).trans (hk TI _ (by simp [Ne.symm zI, IO, I1, I2]) hI), ⟨_, _, (s3.2 _ (Ne.symm zO)).trans Oh⟩, (s3.2 _ (Ne.symm z1)).trans d1.1, (s3.2 _ (Ne.symm z2)).trans d2.1⟩, fun c hm => by rw [upd_ne (far c hm), (hf c hm).1]⟩
    simp only [List.mem_cons, List.not_mem_nil, or_false, not_or] at hm
    exact (s3.2 c hm.1).trans (hk c o (by simp [hm]) q)
  done := by
    intro X hP hw hK hc i pins s σ H E I hf ⟨hz, hI, ⟨a, b, hO⟩, h1, h2⟩ ⟨xs, q1, hx⟩
    subst hP hw hK
    obtain ⟨u1, r1, p1⟩ := I.sq q1
    have nd' := nd
    simp only [List.nodup_cons, List.mem_cons, List.not_mem_nil, or_false, not_or] at nd'
    obtain ⟨⟨zI, zO, z1, z2⟩, ⟨IO, I1, I2⟩, ⟨O1, O2⟩, n12, _⟩ := nd'
    have na1 : ∀ c ∈ [z, TI, TO, i1, i2], c ≠ a1 := fun c hm => I.sq_ne q1 (hf c hm)
    have S : Sep z TI TO i1 i2 [i1, a1] [i2] := ⟨nd, by simp [z1, na1 z (by simp)], by simp [O1, na1 TO (by simp)], by simp [Ne.symm n12, na1 i2 (by simp)], by simp [z2], by simp [O2], by simp [n12]⟩
    have hsz : i = u1.toArray.size := by rw [List.size_toArray, ← r1.length, hx]
    have tyz : s.TypeIs (.ref z) "zip" := ⟨_, hz, rfl⟩
    unfold pyNext
    refine wpAny_bind (wpAny_attempt (wpAny_callSpecial?_slot (name := "__next__") tyz F.slot_zip_next (wpAny_call_entry F.slot_zip_next tyz F.entry_zip_next
      (zip_stop S (draws (prog := X.prog) (w := X.w) (A := X.A.in1) (I.ok.hd hc) b1 i1 a1 u1.toArray (p1.ne h1)) hz hI ⟨by rw [← hsz]; exact h1, p1⟩ fun h' x hk ⟨o, eo, co⟩ => ?_) (F.args_zip_next_1 _))))
    refine wpAny_bind (wpAny_isInstance (T := "StopIteration") (b := true) ⟨o, eo, co⟩ isSubtype_stop (wpAny_pure ⟨rfl, I.spun (t' := s.toks) (fp := [z, TI, TO, i1, i2]) (fun c o hm q => hk c o ?_ q) hf⟩))
    simp only [List.mem_cons, List.not_mem_nil, or_false, not_or] at hm ⊢
    exact ⟨hm.1, hm.2.2.1, hm.2.2.2.1, hm.2.2.2.2⟩
  self := fun _ _ _ _ _ st h => wpAny_pyIter_zip st.1 h
def iZip (K : PySem.W.Frag) (b1 b2 : Bool) (ta : TA) : TI := fun σ H R => ta σ H fun vs H1 => ∃ a1 a2 xs ys, vs = [.ref a1, .ref a2] ∧ SqB b1 K H1 a1 xs ∧ SqB b2 K H1 a2 ys ∧ R (Itz K b1 b2 a1 a2) H1
theorem pi_zip {X : Cx} {a b : Expr} {ta : TA} {p pos p1 : Pos} {es : List Expr} {k1} (b1 b2 : Bool) (hg : Gl X "zip") (hm : X.mg "zip" = none) (ha : PA X [a, b] ta) (hs : starEach [a, b] X.env = [(false, eval a X.env), (false, eval b X.env)] := by rfl) (hs2 : starEach [b] X.env = [(false, eval b X.env)] := by rfl) :
    PI X (.Tuple es k1 p1) (.Call (.Name "zip" p) [a, b] [] pos) (iZip X.K b1 b2 ta) := by
  intro pins s σ H R I h
  refine Call_ (ld_blt I hg hm (u := .type "zip") (by rfl) (PyProof.Rows.callWith_type1 (thn (ha pos pins s σ H _ I h) fun us s1 ⟨vs, H1, I1, r1, q1⟩ => ?_) (by rw [hs, hs2]) (by rw [hs2]; rfl)))
  obtain ⟨a1, a2, xs, ys, rfl, hq1, hq2, q⟩ := q1
  obtain ⟨u, v, rfl, ru, rv⟩ := r1.two
  cases ru
  cases rv
  obtain ⟨its, _, pl1⟩ := I1.sq hq1
  obtain ⟨jts, _, pl2⟩ := I1.sq hq2
  refine callType_new F.called_zip (by decide) (F.typeCall_zip_2 _ _) (F.newCall_zip_2 _ _) (fun obj => F.args_object_init_3 obj _ _) F.entry_zip_new (zip_new b1 b2 a1 a2 its.toArray jts.toArray) ⟨pl1, pl2, fun h' z ⟨TI, TO, i1, i2, nd, far, hz, hI, hO, h1, h2⟩ hk => ⟨⟨_, hz, rfl⟩, ?_⟩⟩
  exact wpAny_pyIter_zip hz ⟨_, [z, TI, TO, i1, i2], _, _, H1, rfl, I1.kept (t' := s1.toks) hk, turn_zip b1 b2 a1 a2 z TI TO i1 i2 nd, ⟨hz, hI, ⟨_, _, hO⟩, h1, h2⟩, fun c hc => I1.fpOk (far c hc) (I1.hok.fresh (far c hc)), q⟩
end L2
end
section
set_option maxHeartbeats 4000001
namespace L2
open PySem PySem.Spec PyProof.Rows Own
section
variable {X : Cx}
theorem walkB {prog : Program} {w : World} {A : Around} (hh : A.handled = none) (b : Bool) (I a : Addr) (hne : a ≠ I) (xs : Array Value) :
    Walks prog w A I [I, a] [I] xs.size (fun i v => xs[i]? = some v) (fun i h => (match b with | true => h.IsListIter I a i | false => h.IsTupleIter I a i) ∧ SqO b h a xs) := by
  cases b
  · exact Walks.tuple hh I a hne xs
  · exact Walks.list hh I a hne xs
theorem call_allB (hc : X.calm = true) (b : Bool) : CallR X (.builtin "all") (fun vs H Q => ∃ a bs, vs = [.ref a] ∧ SqB b X.K H a (List.map V.bl bs) ∧ Q (.bl (bs.all id)) H) := by
  intro pins s σ H vs us Q I rv h
  obtain ⟨a, bs, rfl, hq, q⟩ := h
  obtain ⟨u, rfl, ru⟩ := rv.one
  cases ru
  obtain ⟨its, r, p⟩ := I.sq hq
  have hne : a ≠ s.heap.objs.size := by
    obtain ⟨o, n, e, _⟩ := p.ob
    exact Nat.ne_of_lt (Heap.lt_size e)
  have hl : its.length = bs.length := by rw [← r.length, List.length_map]
  refine call_all_walk (iter_of p ⟨s.heap.objs.size, [s.heap.objs.size, a], [s.heap.objs.size], _, _, _, fun i => bs.getD i true, rfl, walkB (show X.A.in1.handled = none from I.ok.hd hc) b _ a hne its.toArray, ?_, ?_, ?_⟩)
  · refine ⟨?_, p.mv fun o e => Heap.get?_push_of_some _ e⟩
    cases b <;> exact ⟨_, Heap.get?_push_size _ rfl, rfl, rfl⟩
  · intro i v s' Q' E' hv hQ
    have hv' : its[i]? = some v := by simpa using hv
    have hi := (List.getElem?_eq_some_iff.mp hv').1
    have e : (List.map V.bl bs)[i]? = some (V.bl (bs.getD i true)) := by
      rw [List.getElem?_map, List.getD_eq_getElem?_getD, List.getElem?_eq_getElem (by lia)]
      rfl
    obtain ⟨u', e', ru⟩ := r.get e
    rw [hv'] at e'
    obtain rfl := Option.some.inj e'
    obtain rfl : v = Value.bool (bs.getD i true) := ru
    exact wpAny_truthy_bool hQ
  · intro h' tk hk
    refine ⟨.bl (bs.all id), H, I.kept (t' := tk) fun c o e => hk c o ?_ (Heap.get?_push_of_some _ e), ?_, q⟩
    · exact fun z => Nat.ne_of_lt (Heap.lt_size e) (List.mem_singleton.mp z)
    · show Value.bool _ = Value.bool _
      congr 1
      rw [List.size_toArray, hl, Bool.eq_iff_iff, List.all_eq_true, List.all_eq_true]
      constructor
      · intro h x hx
        obtain ⟨j, hj, e⟩ := List.getElem_of_mem hx
        have at_j := h j (List.mem_range.mpr hj)
        rw [List.getD_eq_getElem?_getD, List.getElem?_eq_getElem hj] at at_j
        rw [← e]; exact at_j
      · intro h j hj
        rw [List.getD_eq_getElem?_getD, List.getElem?_eq_getElem (List.mem_range.mp hj)]
        exact h _ (List.getElem_mem _)
theorem call_isi : CallR X (.builtin "isinstance") (fun vs H Q => ∃ x T t k, vs = [x, .ty T] ∧ TyOf X.K H x t ∧ PySem.W.kitOne X.K t (.type T) = some k ∧ Q (.bl k) H) := by
  intro pins s σ H vs us Q I rv h
  obtain ⟨x, T, t, k, rfl, ht, hk, q⟩ := h
  obtain ⟨u, v, rfl, ru, rv'⟩ := rv.two
  cases (show v = Value.type T from rv')
  exact isinst_ok I ru ht hk fun tk => ⟨.bl k, H, I.tok tk, rfl, q⟩
theorem all_eq (ns ms : List Int) : ((List.range (min (ns.map V.int).length (ms.map V.int).length)).all (fun j => eqV ((ns.map V.int).getD j .non) ((ms.map V.int).getD j .non)) && (ns.map V.int).length == (ms.map V.int).length) = decide (ns = ms) := by
  rw [Bool.eq_iff_iff, Bool.and_eq_true, List.all_eq_true, decide_eq_true_iff, beq_iff_eq, List.length_map, List.length_map]
  have at' : ∀ (l : List Int) (j : Nat) (h : j < l.length), (l.map V.int).getD j .non = .int l[j] := fun l j h => by
    rw [List.getD_eq_getElem?_getD, List.getElem?_map, List.getElem?_eq_getElem h]; rfl
  constructor
  · rintro ⟨h, e⟩
    refine List.ext_getElem e fun j h1 h2 => ?_
    have := h j (List.mem_range.mpr (by lia))
    rw [at' ns j h1, at' ms j h2] at this
    simpa [eqV] using this
  · rintro rfl
    refine ⟨fun j hj => ?_, rfl⟩
    have hj' : j < ns.length := by have := List.mem_range.mp hj; lia
    rw [at' ns j hj']
    simp [eqV]
theorem flat_ints (ns : List Int) : (ns.map V.int).all flatV = true := by
  rw [List.all_map, List.all_eq_true]; intro _ _; rfl
end
example (K : PySem.W.Frag) : PySem.W.kitOne K (.type "int") (.type "tuple") = some false := by rfl
example (K : PySem.W.Frag) : PySem.W.kitOne K (.type "int") (.type "bool") = some false := by first | rfl | decide | (with_unfolding_all rfl)
end L2
end
section
set_option maxHeartbeats 4000001
namespace L2
open PySem PySem.Spec PyProof.Rows Own
theorem same_new {H : Hp} {p : Addr} (h : H p = none) (o : HO) : Same H (upd H p o) := fun b u q => by rw [upd_ne (ne_of_none q h)]; exact q
def capB (N N' : List Str) (sc scope : Scope) (cap : List (Option Nat)) : Bool :=
  decide (scope.kind = .function) && (scope.names.all fun y => decide (y.2 ≠ .cell) && (decide (y.2 ≠ .local) || decide (scope.names.lookup y.1 = some .local)) &&
    (decide (y.2 ≠ .free) || (decide (sc.names.lookup y.1 = some .cell) || decide (sc.names.lookup y.1 = some .free)))) && decide (cap.length = N'.length) &&
  ((N'.zip cap).all fun p => match p.2 with
    | none => true
    | some i => decide (N[i]? = some p.1) && (decide (scope.names.lookup p.1 = some .free) && (decide (sc.names.lookup p.1 = some .cell) || decide (sc.names.lookup p.1 = some .free))))
theorem CapOk.of {N N' : List Str} {sc scope : Scope} {cap : List (Option Nat)} (h : capB N N' sc scope cap = true) : CapOk N N' sc scope cap := by
  unfold capB at h
  simp only [Bool.and_eq_true, List.all_eq_true, Bool.or_eq_true, decide_eq_true_eq] at h
  obtain ⟨⟨⟨h1, h2⟩, h3⟩, h4⟩ := h; refine ⟨h1, fun y hy => (h2 y hy).1.1, fun y hy e => ?_, fun y hy e => ?_, h3, fun p hp i e => ?_⟩
  · rcases (h2 y hy).1.2 with z | z
    · exact absurd e z
    · exact z
  · rcases (h2 y hy).2 with z | z
    · exact absurd e z
    · exact z
  · have q := h4 p hp
    rw [e] at q
    simp only [Bool.and_eq_true, Bool.or_eq_true, decide_eq_true_eq] at q
    exact q
def Nx (n i : Nat) (p : Prop) : Prop := ∃ m', m' < n - i ∧ m' = n - (i + 1) ∧ i + 1 ≤ n ∧ p
theorem nx {n i : Nat} {p : Prop} (h : i < n) (q : p) : Nx n i p := ⟨n - (i + 1), by lia, rfl, h, q⟩
theorem lc_range {lo : Int} {n : Nat} {g : TG} {te : TE} {l : Addr} {σ : St} {H : Hp} {Q : VK} (Pv : Nat → List V → St → Hp → Prop) (h0 : Pv 0 [] σ H) (hl : ∀ i acc σ H, Pv i acc σ H → H l = some (.lst acc))
    (hs : ∀ i acc σ H, i < n → Pv i acc σ H → g (.int (lo + i)) σ H fun σ3 H3 => te σ3 H3 fun y H5 => H5 l = some (.lst acc) ∧ acc.length < sizeLine ∧ Nx n i (Pv (i + 1) (acc ++ [y]) σ3 (upd H5 l (.lst (acc ++ [y])))))
    (hd : ∀ acc σ H, Pv n acc σ H → Q (.ref l) H) : ∃ W : Nat → Nat → List V → St → Hp → Prop, (∃ m, W 0 m [] σ H) ∧ LCW (Itr lo n) g tYes te l Q W := by
  refine ⟨fun i m acc σ H => m = n - i ∧ i ≤ n ∧ Pv i acc σ H, ⟨n, by simp, Nat.zero_le _, h0⟩, ?_⟩
  rintro i m acc σ H ⟨rfl, hi, p⟩
  refine ⟨hl i acc σ H p, ?_⟩
  by_cases hlt : i < n
  · refine .inr ⟨hlt, fun x H2 ⟨e, y⟩ => ?_⟩
    subst e y
    exact hs i acc σ _ hlt p
  · have e : i = n := by lia
    subst e
    exact .inl ⟨Nat.le_refl _, hd acc σ H p⟩
theorem lc_zip {K : PySem.W.Frag} {b1 b2 : Bool} {a1 a2 : Addr} {xs ys : List V} (hxy : xs.length = ys.length) {g : TG} {te : TE} {l : Addr} {σ : St} {H : Hp} {Q : VK} (Pv : Nat → List V → St → Hp → Prop) (h0 : Pv 0 [] σ H)
    (hl : ∀ i acc σ H, Pv i acc σ H → H l = some (.lst acc) ∧ SqB b1 K H a1 xs ∧ SqB b2 K H a2 ys)
    (hs : ∀ i acc σ H x y T, xs[i]? = some x → ys[i]? = some y → H T = none → Pv i acc σ H → g (.ref T) σ (upd H T (.tup [x, y])) fun σ3 H3 => te σ3 H3 fun z H5 => H5 l = some (.lst acc) ∧ acc.length < sizeLine ∧ Nx xs.length i (Pv (i + 1) (acc ++ [z]) σ3 (upd H5 l (.lst (acc ++ [z])))))
    (hd : ∀ acc σ H, Pv xs.length acc σ H → Q (.ref l) H) : ∃ W : Nat → Nat → List V → St → Hp → Prop, (∃ m, W 0 m [] σ H) ∧ LCW (Itz K b1 b2 a1 a2) g tYes te l Q W := by
  refine ⟨fun i m acc σ H => m = xs.length - i ∧ i ≤ xs.length ∧ Pv i acc σ H, ⟨xs.length, by simp, Nat.zero_le _, h0⟩, ?_⟩
  rintro i m acc σ H ⟨rfl, hi, p⟩
  obtain ⟨q0, q1, q2⟩ := hl i acc σ H p
  refine ⟨q0, ?_⟩
  by_cases hlt : i < xs.length
  · refine .inr ⟨⟨xs, ys, _, _, q1, q2, List.getElem?_eq_getElem hlt, List.getElem?_eq_getElem (by lia)⟩, fun v H2 ⟨x, y, ex, ey, T, hT, e1, e2⟩ => ?_⟩
    subst e1 e2
    exact hs i acc σ H x y T (ex xs q1) (ey ys q2) hT p
  · have e : i = xs.length := by lia
    subst e
    exact .inl ⟨⟨xs, q1, rfl⟩, hd acc σ H p⟩
end L2
end
section
set_option maxHeartbeats 4000001
namespace L2
open PySem PySem.Spec PyProof.Rows Own
section
variable {X : Cx}
theorem num_at {ns : List Int} {its : List Value} (r : Vals (ns.map V.int) its) {i : Nat} {v : Value} (h : its[i]? = some v) : i < ns.length ∧ ∃ t, v = .int (ns.getD i 0) t := by
  have hl : its.length = ns.length := by rw [← r.length, List.length_map]
  have hi := (List.getElem?_eq_some_iff.mp h).1
  have e : (List.map V.int ns)[i]? = some (V.int (ns.getD i 0)) := by
    rw [List.getElem?_map, List.getD_eq_getElem?_getD, List.getElem?_eq_getElem (by lia)]; rfl
  obtain ⟨u', e', ⟨t, rfl⟩⟩ := r.get e
  rw [h] at e'
  exact ⟨by lia, t, Option.some.inj e'⟩
theorem getD_mem {ns : List Int} {i : Nat} (h : i < ns.length) : ns.getD i 0 ∈ ns := by
  rw [List.getD_eq_getElem?_getD, List.getElem?_eq_getElem h]; exact List.getElem_mem h
theorem mem_getD {ns : List Int} {x : Int} (h : x ∈ ns) : ∃ i, i < ns.length ∧ ns.getD i 0 = x := by
  obtain ⟨i, hi, e⟩ := List.getElem_of_mem h
  exact ⟨i, hi, by rw [List.getD_eq_getElem?_getD, List.getElem?_eq_getElem hi]; exact e⟩
theorem call_minB (hc : X.calm = true) (b : Bool) : CallR X (.builtin "min") (fun vs H Q => ∃ a ns, vs = [.ref a] ∧ SqB b X.K H a (List.map V.int ns) ∧ 0 < ns.length ∧ ∀ M, M ∈ ns → (∀ x ∈ ns, M ≤ x) → Q (.int M) H) := by
  intro pins s σ H vs us Q I rv h
  obtain ⟨a, ns, rfl, hq, hpos, q⟩ := h
  obtain ⟨u, rfl, ru⟩ := rv.one
  cases ru
  obtain ⟨its, r, p⟩ := I.sq hq
  obtain ⟨o, n, eo, _⟩ := p.ob
  have hl : its.length = ns.length := by rw [← r.length, List.length_map]
  refine call_min_walk (iter_of p ⟨s.heap.objs.size, [s.heap.objs.size, a], [s.heap.objs.size], _, _, _, fun i j => decide (ns.getD i 0 < ns.getD j 0), rfl, walkB (show X.A.in1.handled = none from I.ok.hd hc) b _ a (Nat.ne_of_lt (Heap.lt_size eo)) its.toArray, ⟨?_, p.mv fun o e => Heap.get?_push_of_some _ e⟩, fun c hm => ?_, by rw [List.size_toArray]; lia, ?_, ?_⟩)
  · cases b <;> exact ⟨_, Heap.get?_push_size _ rfl, rfl, rfl⟩
  · show c < (s.heap.push _).objs.size
    rw [Heap.size_push]
    rcases List.mem_cons.mp hm with z | z
    · rw [z]; exact Nat.lt_succ_self _
    · rw [List.mem_singleton.mp z]; exact Nat.lt_succ_of_lt (Heap.lt_size eo)
  · intro i j vi vj s' Q' E' hi hj hQ
    obtain ⟨_, t, rfl⟩ := num_at r (i := i) (by simpa using hi)
    obtain ⟨_, t', rfl⟩ := num_at r (i := j) (by simpa using hj)
    exact lt_int hQ
  · intro v h' tk hv hk
    have best := argBest_lt (fun i => ns.getD i 0) (its.toArray.size - 1)
    obtain ⟨li, t, rfl⟩ := num_at r (by simpa using hv)
    refine ⟨.int _, H, I.kept (t' := tk) fun c o e => hk c o (fun z => Nat.ne_of_lt (Heap.lt_size e) (List.mem_singleton.mp z)) (Heap.get?_push_of_some _ e), ⟨t, rfl⟩, q _ (getD_mem li) fun x hx => ?_⟩
    obtain ⟨j, hj, rfl⟩ := mem_getD hx
    exact best.2 j (by rw [List.size_toArray]; lia)
end
end L2
end
section
set_option maxHeartbeats 4000001
namespace Own
open PySem PySem.Spec PyProof.Rows
section
variable {prog : Program} {w : World} {A : Around} {E : Value → Shared → Prop} {s : Shared}
theorem SqO.cl {b : Bool} {a : Addr} {xs : Array Value} (x : SqO b s.heap a xs) : s.TypeIs (.ref a) (if b then "list" else "tuple") := by
  cases b <;> (obtain ⟨o, e, c, _⟩ := x; exact ⟨o, e, c⟩)
theorem gather {b : Bool} {a : Addr} {vs : List Value} {Q : List Value → Shared → Prop} (sq : SqO b s.heap a vs.toArray) (hz : vs.length ≤ sizeLine)
    (h : ∀ h', s.heap.objs.size ≤ h'.objs.size → (∀ c o, s.heap.get? c = some o → h'.get? c = some o) → Q vs { s with heap := h' }) : wpAny (model prog w) A (collect (.ref a)) Q E s := by
  obtain ⟨o, n, e, d⟩ := sq.ob
  have new : (s.heap.push (seqObj "list" #[] 0)).get? s.heap.objs.size = some (seqObj "list" #[] 0) := Heap.get?_push_size _ rfl
  have e' : (s.heap.push (seqObj "list" #[] 0)).get? a = some o := Heap.get?_push_of_some _ e
  have old : ∀ c u, s.heap.get? c = some u → ((s.heap.push (seqObj "list" #[] 0)).update s.heap.objs.size (Obj.mapSeq (· ++ vs.toArray))).get? c = some u := fun c u q => by
    rw [Heap.get?_update_other _ _ (Nat.ne_of_gt (Heap.lt_size q))]; exact Heap.get?_push_of_some _ q
  have sq' : SqO b (s.heap.push (seqObj "list" #[] 0)) a vs.toArray := sq.mv fun o q => Heap.get?_push_of_some _ q
  have short : ((#[] : Array Value) ++ vs.toArray).size ≤ sizeLine + 1 := by simp; lia
  unfold collect
  refine wpAny_bind (wpAny_runValue (codeAny_builtin entry_proto_collect' (wpAny_bind (wpAny_newList (wpAny_pure ⟨Code.quiet_builtin _ (by decide +kernel), codeAny_builtin entry_list_iadd' ?_⟩)))))
  show wpAny _ _ (Builtin.List.listExtendWith (.ref s.heap.objs.size) (.ref a) (.ref s.heap.objs.size)) _ _ ({ s with heap := s.heap.push (seqObj "list" #[] 0) } : Shared)
  unfold Builtin.List.listExtendWith; have tyr : Shared.TypeIs ({ s with heap := s.heap.push (seqObj "list" #[] 0) } : Shared) (.ref a) (if b then "list" else "tuple") := SqO.cl sq'
  refine wpAny_bind (wpAny_typeOf tyr ?_)
  have yes : (Builtin.List.listSameRef (.ref s.heap.objs.size) (.ref a) || Value.type (if b then "list" else "tuple") == Value.type "list" || Value.type (if b then "list" else "tuple") == Value.type "tuple") = true := by
    have c : ∀ b : Bool, (Value.type (if b then "list" else "tuple") == Value.type "list" || Value.type (if b then "list" else "tuple") == Value.type "tuple") = true := by decide
    rw [Bool.or_assoc, c b, Bool.or_true]
  rw [if_pos yes]
  refine wpAny_bind (listItems_at e' d (wpAny_bind (listItems_at new rfl ?_)))
  rw [if_neg (by simp)]
  refine wpAny_bind (listUpdate_at new rfl (wpAny_pure ?_) (Nat.zero_le _) short)
  refine wpAny_bind (wpAny_load (get?_update_seq new _) ?_)
  have all : ((#[] : Array Value) ++ vs.toArray).toList = vs := by simp
  have fin : wpAny (model prog w) A (pure ((#[] : Array Value) ++ vs.toArray).toList) Q E { s with heap := (s.heap.push (seqObj "list" #[] 0)).update s.heap.objs.size (Obj.mapSeq (· ++ vs.toArray)) } := by
    rw [all]; exact wpAny_pure (h _ (by rw [Heap.size_update, size_push']; exact Nat.le_succ _) old)
  exact fin
theorem sortedO {b : Bool} {a : Addr} {vs : List Value} {ns : List Int} {Q : Value → Shared → Prop} (sq : SqO b s.heap a vs.toArray) (hI : IntsAre vs ns) (h64 : vs.length < 64)
    (h : ∀ h' l ms e (out : Array Value), s.heap.objs.size ≤ l → h'.get? l = some (seqObj "list" out e) → IntsAre out.toList ms → ms.Perm ns → ms.Pairwise (· ≤ ·) → (∀ c o, s.heap.get? c = some o → h'.get? c = some o) → Q (.ref l) { s with heap := h' }) :
    wpAny (model prog w) A (call (.builtin "sorted") [.ref a]) Q E s := by
  refine Calls.call_function_entry kind_sorted plain_sorted entry_sorted (args_sorted1 _) ?_; unfold Builtin.«sorted»
  have small : vs.length ≤ sizeLine := Nat.le_trans (Nat.le_of_lt h64) (by decide)
  refine wpAny_bind (m := checkCount "sorted" 1 1 _) (wpAny_pure (wpAny_bind (gather sq small fun h1 far k1 => wpAny_bind (wpAny_newList ?_))))
  have new : (h1.push (seqObj "list" vs.toArray 0)).get? h1.objs.size = some (seqObj "list" vs.toArray 0) := Heap.get?_push_size _ rfl
  refine wpAny_bind (wpAny_holding (wpAny_call_entry slot_list_sort ⟨_, new, rfl⟩ entry_list_sort (list_sort_tree new hI h64 fun out ms i1 i2 i3 => ⟨_, rfl, ?_⟩) (args_list_sort _)))
  obtain ⟨e, he⟩ := sortedHeap_at (out := out) new
  refine wpAny_pure ⟨_, rfl, h _ _ ms e out far he i1 i2 i3 fun c o q => ?_⟩
  have lt := Heap.lt_size (k1 c o q)
  rw [sortedHeap_old (Nat.ne_of_lt lt) (by rw [size_push']; exact Nat.lt_succ_of_lt lt)]
  exact Heap.get?_push_of_some _ (k1 c o q)
end
end Own
namespace L2
open PySem PySem.Spec PyProof.Rows Own
section
variable {X : Cx}
theorem ints_of {ns : List Int} {us : List Value} (h : IntsAre us ns) : Vals (ns.map V.int) us := by
  induction h with
  | nil => exact .nil
  | cons n t _ ih => exact .cons ⟨t, rfl⟩ ih
theorem to_ints : ∀ {ns : List Int} {us : List Value}, Vals (ns.map V.int) us → IntsAre us ns
  | [], _, .nil => .nil
  | n :: ns, _, .cons ⟨t, e⟩ r => by subst e; exact .cons n t (to_ints r)
theorem call_sortedB (b : Bool) : CallR X (.builtin "sorted") (fun vs H Q => ∃ a ns, vs = [.ref a] ∧ SqB b X.K H a (List.map V.int ns) ∧ ns.length < 64 ∧ ∀ (l : Addr) (ms : List Int), H l = none → ms.Perm ns → ms.Pairwise (· ≤ ·) → Q (.ref l) (upd H l (.lst (ms.map V.int)))) := by
  intro pins s σ H vs us Q I rv h
  obtain ⟨a, ns, rfl, hq, h64, q⟩ := h
  obtain ⟨u, rfl, ru⟩ := rv.one
  cases ru
  obtain ⟨its, r, p⟩ := I.sq hq
  have hl : its.length = ns.length := by rw [← r.length, List.length_map]
  refine sortedO p (to_ints r) (by lia) fun h' l ms e out far eo i1 i2 i3 k => ?_
  refine ⟨.ref l, _, I.laid (t' := s.toks) (o := .lst (ms.map V.int)) k far ⟨?_, out.toList, e, ints_of i1, by simpa [seqObj] using eo⟩, rfl, q l ms (I.hok.fresh far) i2 i3⟩
  rw [List.length_map, i2.length_eq]
  exact Nat.le_trans (Nat.le_of_lt h64) (by decide)
end
end L2
end
section
set_option maxHeartbeats 4000001
namespace L2
open PySem PySem.Spec PyProof.Rows Own
section
variable {X : Cx}
end
theorem lc_rangeT {lo : Int} {n : Nat} {g : TG} {tt : TT} {te : TE} {l : Addr} {σ : St} {H : Hp} {Q : VK} (Pv : Nat → List V → St → Hp → Prop) (h0 : Pv 0 [] σ H) (hl : ∀ i acc σ H, Pv i acc σ H → H l = some (.lst acc))
    (hs : ∀ i acc σ H, i < n → Pv i acc σ H → g (.int (lo + i)) σ H fun σ3 H3 => tt σ3 H3 fun b H4 => if b = true then te σ3 H4 fun y H5 => H5 l = some (.lst acc) ∧ acc.length < sizeLine ∧ Nx n i (Pv (i + 1) (acc ++ [y]) σ3 (upd H5 l (.lst (acc ++ [y])))) else Nx n i (Pv (i + 1) acc σ3 H4))
    (hd : ∀ acc σ H, Pv n acc σ H → Q (.ref l) H) : ∃ W : Nat → Nat → List V → St → Hp → Prop, (∃ m, W 0 m [] σ H) ∧ LCW (Itr lo n) g tt te l Q W := by
  refine ⟨fun i m acc σ H => m = n - i ∧ i ≤ n ∧ Pv i acc σ H, ⟨_, rfl, Nat.zero_le _, h0⟩, ?_⟩
  rintro i m acc σ H ⟨rfl, hi, p⟩
  refine ⟨hl i acc σ H p, ?_⟩
  by_cases hlt : i < n
  · refine .inr ⟨hlt, fun x H2 ⟨e, y⟩ => ?_⟩
    subst e y
    exact hs i acc σ _ hlt p
  · obtain rfl : i = n := by lia
    exact .inl ⟨Nat.le_refl _, hd acc σ H p⟩
end L2
end
section
set_option maxHeartbeats 4000001
namespace L2
open PySem PySem.Spec PyProof.Rows PySem.Calls PySem.NumText Own
theorem looks_limit {M : Model} {K : PySem.W.Frag} {h : Heap} (X : K.In h) (e : PySem.W.nsIn K cStatics "sys.int_max_str_digits" = some none) : PySem.W.Looks M h Builtin.intMaxStrDigits 4300 := by
  show PySem.W.Looks M h (nsGet cStatics "sys.int_max_str_digits" >>= _) 4300
  exact (PySem.W.looks_nsIn X e).andThen .now
theorem wp_long {M : Model} {A : Around} {E : Value → Shared → Prop} {s : Shared} {Q : Value → Shared → Prop} {v : Value} {text : List Nat} {n : Int}
    (hl : PySem.W.Looks M s.heap Builtin.intMaxStrDigits 4300) (hs : ¬ (text.takeWhile (· != 0)).length ≤ 640) (hr : (int_private% "readNumeral") 4300 10 (text.takeWhile (· != 0)) = (int_private% "Numeral.value") n)
    (ha : ((text.takeWhile (· != 0)).length == text.length) = true) (h : Q (.int n s.toks) { s with toks := s.toks + 1 }) : wpAny M A ((int_private% "intFromText") v text 10) Q E s := by
  cases s
  repeat (any_goals (first | assumption | (with_reducible refine wpAny_ite_false (decide_eq_false hs) ?_) | ((with_reducible show wpAny _ _ Builtin.intMaxStrDigits _ _ _); refine PySem.W.Looks.at hl ?_) | wp_step))
  all_goals (try (rw [hr]; dsimp only))
  repeat (any_goals (first | assumption | (with_reducible refine wpAny_ite_true (by rw [ha]; rfl) ?_) | wp_step))
theorem meets_long {K : PySem.W.Frag} {x : Str} {u : Tok} {n : Int} (e : PySem.W.nsIn K cStatics "sys.int_max_str_digits" = some none) (hl : x.length ≤ 4300) (h6 : ¬ (numSeenOf x).length ≤ 640) (hn : intText? x = some n) :
    Meets (Builtin.«int.__new__» ⟨[.type "int", .str x u], []⟩) (fun _ R s => K.In s.heap ∧ R (.ok (.ret (.int n s.toks))) { s with toks := s.toks + 1 }) :=
  .of_wp fun prog w A R s h => by
    cases s with
    | mk hp gs dr tk os =>
    obtain ⟨KX, h⟩ := h
    have kinds := And.intro PySem.W.KIN.str_int (And.intro PySem.W.KIN.str_idx PySem.W.KIN.str_trunc)
    obtain ⟨k1, k2, k3⟩ := kinds
    have k4 := F.conv_sub_int; have k5 := F.madeHere_int
    have ofText : typeOf (.str x u) = pure (.type "str") := rfl
    have lk : PySem.W.Looks (model prog w) hp Builtin.intMaxStrDigits 4300 := looks_limit KX e
    have rd : (int_private% "readNumeral") 4300 10 (numSeenOf x) = (int_private% "Numeral.value") n ∧ ((numSeenOf x).length == (numTextOf x).length) = true := by
      rcases read4300 x (Nat.le_trans hl (by decide)) with ⟨m, g1, g2, g3⟩ | ⟨g1, _⟩
      · rw [hn] at g1; cases g1; exact ⟨g3, g2⟩
      · rw [hn] at g1; cases g1
    have all4 := PySem.W.KIN.Hid.mk (And.intro lk (And.intro h6 rd))
    clear lk h6 rd hl hn e KX
    repeat (any_goals (first | assumption | ((with_reducible show wpAny _ _ ((int_private% "intFromText") _ _ _) _ _ _); refine wp_long all4.out.1 all4.out.2.1 all4.out.2.2.1 all4.out.2.2.2 ?_) | wp_step))
    all_goals (first | exact Exists.intro _ (And.intro rfl h) | skip)
section
variable {X : Cx}
theorem call_intLong (e : PySem.W.nsIn X.K cStatics "sys.int_max_str_digits" = some none) : CallR X (.type "int") (fun vs H Q => ∃ x : Str, vs = [.str x] ∧ AllDigits x.cps.toList ∧ 640 < x.length ∧ x.length ≤ 4300 ∧ Q (.int (digitsVal x.cps.toList : Nat)) H) := by
  intro pins s σ H vs us Q I rv h
  obtain ⟨x, rfl, hd, h6, h43, q⟩ := h
  obtain ⟨u, rfl, t, rfl⟩ := rv.one
  have xl : x.cps.toList.length = x.length := by simp [Str.length]
  have ne : x.cps.toList ≠ [] := fun z => by rw [z] at xl; simp at xl; lia
  have hn := intText_digits hd ne h43
  have seen : (numSeenOf x).length = x.length := by
    rcases read4300 x (Nat.le_trans h43 (by decide)) with ⟨m, g1, g2, g3⟩ | ⟨g1, _⟩
    · have a128 : x.cps.all (· < 128) = true := by
        rw [← Array.all_toList]; refine List.all_eq_true.mpr fun c hc => ?_
        have := (hd c hc).2
        exact decide_eq_true (show c < 128 by lia)
      have g2' := eq_of_beq g2
      rw [g2']
      show (if x.cps.all (· < 128) = true then x.cps.toList else _).length = _
      rw [if_pos a128, xl]
    · rw [hn] at g1; cases g1
  exact call_int_1 (meets_long (K := X.K) e h43 (by lia) hn) ⟨I.kIn, (typeIs_int _ _ _), .int _, H, I.tok _, ⟨_, rfl⟩, q⟩
theorem op_repS : OpR X (binaryOp .Mult) (fun x y H Q => ∃ (c : Nat) (n : Int), x = .str ⟨#[c]⟩ ∧ y = .int n ∧ 0 ≤ n ∧ n ≤ 100000 ∧ ∀ z : Str, z.cps.toList = List.replicate n.toNat c → Q (.str z) H) := by
  intro pins s σ H x y v u Q I rx ry h
  obtain ⟨c, n, rfl, rfl, n0, n1, q⟩ := h
  obtain ⟨t, rfl⟩ := rx
  obtain ⟨t', rfl⟩ := ry
  have one : (⟨#[c]⟩ : Str).length = 1 := rfl
  refine PySem.P.mul_str (by rw [decide_eq_false (by lia), decide_eq_false (by lia)]; rfl) (fun a b => ?_) (fun a b => ?_) ?_
  · rw [one]
    have : (1 : Int) ≤ (2 ^ 63 - 1) / n := by
      rw [Int.le_ediv_iff_mul_le (by lia)]; lia
    lia
  · rw [one]
    exact decide_eq_false (by have := sizeLine_eq; lia)
  · by_cases a : n < 1
    · rw [if_pos a]
      have e : n = 0 := by lia
      subst e
      exact ⟨by decide, .str _, H, I.tok _, ⟨_, rfl⟩, q _ rfl⟩
    · rw [if_neg a]
      by_cases b : n = 1
      · subst b
        rw [if_pos (show ((1 : Int) == 1 || (⟨#[c]⟩ : Str).length == 0) = true from rfl)]
        exact ⟨.str _, H, I, ⟨_, rfl⟩, q _ rfl⟩
      · have nb : ¬ (n == 1 || (⟨#[c]⟩ : Str).length == 0) = true := by simp [b, one]
        rw [if_neg nb]
        have lst : ∀ (k : Nat) (acc : Array Nat), ((List.replicate k #[c]).foldl (· ++ ·) acc).toList = acc.toList ++ List.replicate k c := fun k => by
          induction k with
          | zero => intro acc; simp
          | succ k ih => intro acc; rw [List.replicate_succ, List.foldl_cons, ih, List.replicate_succ]; simp
        have l0 := lst n.toNat #[]
        refine ⟨?_, .str _, H, I.tok _, ⟨_, rfl⟩, q _ (by rw [l0]; rfl)⟩
        have ln := congrArg List.length l0
        simp only [Array.length_toList, List.length_append, List.length_replicate] at ln
        show (Array.size _) ≤ sizeLine
        rw [ln]
        have := sizeLine_eq
        simp
        lia
end
end L2
end
section
set_option maxHeartbeats 4000001
namespace L2
open PySem PySem.Spec PyProof.Rows Own
section
variable {prog : Program} {w : World} {A : Around} {E : Value → Shared → Prop} {s : Shared}
end
def upTo (n : Nat) : List V := (List.range n).map fun (i : Nat) => V.int i
theorem vals_of_items {acc : Array Value} {n : Nat} (h : ItemsOf (fun i v => ∃ t, v = Value.int (0 + i * 1) t) acc n) : Vals (upTo n) acc.toList := by
  obtain ⟨h1, h2⟩ := h
  have go : ∀ (l : List Value) (k : Nat), (∀ (j : Nat) (v : Value), l[j]? = some v → ∃ t, v = Value.int ((k + j : Nat) : Int) t) → Vals ((List.range l.length).map fun (i : Nat) => V.int ((k + i : Nat) : Int)) l := by
    intro l
    induction l with
    | nil => intro k _; exact .nil
    | cons x l ih =>
      intro k hx
      rw [List.length_cons, List.range_succ_eq_map, List.map_cons, List.map_map]
      refine .cons (by obtain ⟨t, e⟩ := hx 0 x rfl; exact ⟨t, e⟩) ?_
      have := ih (k + 1) fun j v hj => by
        obtain ⟨t, e⟩ := hx (j + 1) v (by simpa using hj)
        exact ⟨t, by rw [e]; congr 1; lia⟩
      refine cast (congrArg (fun z => Vals z l) (List.map_congr_left fun i _ => ?_)) this
      show V.int ((k + 1 + i : Nat) : Int) = V.int ((k + (i + 1) : Nat) : Int)
      congr 2; lia
  have := go acc.toList 0 fun j v hj => by
    obtain ⟨t, e⟩ := h2 j v (by simpa using hj)
    exact ⟨t, by rw [e]; congr 1; lia⟩
  rw [Array.length_toList, h1] at this
  unfold upTo
  refine cast (congrArg (fun z => Vals z acc.toList) (List.map_congr_left fun i _ => ?_)) this
  show V.int ((0 + i : Nat) : Int) = V.int (i : Int)
  rw [Nat.zero_add]
theorem upTo_len (n : Nat) : (upTo n).length = n := by simp [upTo]
section
variable {X : Cx}
def tTyRng (b : Bool) (ta : TA) : TE := fun σ H Q => ta σ H fun vs H1 => ∃ j : Nat, vs = [.int j] ∧ j ≤ 100000 ∧ ∀ l, H1 l = none → Q (.ref l) (upd H1 l (if b = true then .lst (upTo j) else .tup (upTo j)))
theorem small_of {j : Nat} (h : j ≤ 100000) : Builtin.Range.small 0 (j : Int) 1 = true := small_one (by lia) (by lia) (by lia) (by lia)
theorem size_of {j : Nat} : Builtin.Range.rangeSize 0 (j : Int) 1 = ((j : Nat) : Int) := by rw [rangeSize_one]; split <;> lia
theorem pe_lstRng {a : Expr} {ta : TA} {p p2 pos pos2 : Pos} (hc : X.calm = true) (hgl : Gl X "list") (hml : X.mg "list" = none) (hgr : Gl X "range") (hmr : X.mg "range" = none) (ha : PA X [a] ta) (hs : starEach [a] X.env = [(false, eval a X.env)] := by rfl)
    (hs2 : starEach [.Call (.Name "range" p2) [a] [] pos2] X.env = [(false, eval (.Call (.Name "range" p2) [a] [] pos2) X.env)] := by rfl) : PE X (.Call (.Name "list" p) [.Call (.Name "range" p2) [a] [] pos2] [] pos) (tTyRng true ta) := by
  intro pins s σ H Q I h
  refine wpAny_Call_Name_kw (ld_blt I hgl hml (u := .type "list") (by rfl) (PyProof.Rows.callWith_type1 ?_ hs2 rfl))
  rw [hs2]
  refine Calls.spliced_cons (Call_ (ld_blt I hgr hmr boot_range (PyProof.Rows.callWith_type1 (thn (ha pos2 pins s σ H _ I h) fun us s1 ⟨vs, H1, I1, r1, q1⟩ => ?_) hs rfl)))
  obtain ⟨j, rfl, hj, q⟩ := q1
  obtain ⟨u, rfl, t, rfl⟩ := r1.one
  refine call_range_1 (Calls.spliced_nil ?_)
  refine call_list_range (n := j) (I1.ok.hd hc) (IsRange.new ..) (small_of hj) size_of (Nat.le_trans hj (by decide)) fun h' tk acc' c' kk e it => ?_
  have k2 : ∀ b o, s1.heap.get? b = some o → h'.get? b = some o := fun b o z => kk b o (Heap.get?_push_of_some _ z)
  refine ⟨.ref _, _, I1.laid (t' := tk) (o := .lst (upTo j)) k2 ?_ ⟨by rw [upTo_len]; exact Nat.le_trans hj (by decide), acc'.toList, c', vals_of_items it, by simpa using e⟩, rfl, q _ (I1.hok.fresh ?_)⟩
  all_goals (show s1.heap.objs.size ≤ (s1.heap.push _).objs.size; rw [Heap.size_push]; exact Nat.le_succ _)
theorem op_neE (hu : X.A.units < cLine) : OpR X (compareOp .NotEq) (fun x y H Q => ∃ a b xs, x = .ref a ∧ y = .ref b ∧ SqL X.K H a xs ∧ SqL X.K H b [] ∧ Q (.bl (!xs.isEmpty)) H) := by
  intro pins s σ H x y v u Q I rx ry h
  obtain ⟨a, b, xs, rfl, rfl, ha, hb, q⟩ := h
  cases rx; cases ry
  obtain ⟨its, r1, p1, _⟩ := I.list ha
  obtain ⟨jts, r2, p2, _⟩ := I.list hb
  cases r2
  have l1 := r1.length
  cases xs with
  | nil =>
    cases r1
    exact SeqAt.RcNeAt.lists (e := fun _ => true) p1.isList p2.isList rfl hu (fun j h => absurd h (Nat.not_lt_zero _)) X.prog X.w _ _ ⟨.bl _, H, I, rfl, q⟩
  | cons z zs =>
    exact SeqAt.RcNeAt.lists_lengths p1.isList p2.isList (by rw [List.size_toArray, ← l1]; simp) hu X.prog X.w _ _ ⟨.bl _, H, I, rfl, q⟩
end
end L2
end
section
set_option maxHeartbeats 4000001
namespace L2
open PySem PySem.Spec PyProof.Rows Own
section
variable {prog : Program} {w : World} {A : Around} {E : Value → Shared → Prop} {s : Shared}
theorem applied_back {sl : Addr} {t : Tok} {Q : Int × Int × Nat → Shared → Prop} (hs : s.heap.IsSliceOf sl .none .none (.int (-1) t)) (h : Q (1, -1, 2) s) : wpAny (model prog w) A (Builtin.Slice.sliceApplied (.ref sl) (pure (2 : Int))) Q E s := by
  obtain ⟨os, hos, hcs, hds⟩ := id hs
  unfold Builtin.Slice.sliceApplied Builtin.Slice.sliceFields
  refine wpAny_bind (wpAny_bind (wpAny_field hos hds (x := .none) rfl (wpAny_bind (wpAny_field hos hds (x := .none) rfl (wpAny_bind (wpAny_field hos hds (x := .int (-1) t) rfl (wpAny_pure ?_)))))))
  refine wpAny_bind (slicePart_int ?_)
  show wpAny _ _ (if ((-1 : Int) == 0) = true then _ else _) _ _ s
  rw [if_neg (by decide)]
  refine wpAny_bind (slicePart_none (wpAny_bind (slicePart_none (wpAny_bind (wpAny_pure ?_)))))
  show wpAny _ _ (match Builtin.Slice.sliceAdjust none none (-1) (2 : Int) with | (lo, hi) => pure (lo, (-1 : Int), Builtin.Slice.slicePlaces lo hi (-1))) _ _ s
  have e : Builtin.Slice.sliceAdjust none none (-1) (2 : Int) = (1, -1) := by decide
  rw [e]
  have e2 : Builtin.Slice.slicePlaces (1 : Int) (-1) (-1) = 2 := by decide
  show wpAny _ _ (pure ((1 : Int), (-1 : Int), Builtin.Slice.slicePlaces (1 : Int) (-1) (-1))) _ _ s
  rw [e2]
  exact wpAny_pure h
theorem getItem_back {t sl : Addr} {x y : Value} {tk : Tok} {Q : Value → Shared → Prop} (ht : IsTup s.heap t #[x, y]) (hs : s.heap.IsSliceOf sl .none .none (.int (-1) tk)) (h : Q (.ref s.heap.objs.size) { s with heap := s.heap.push { cls := .type "tuple", data := .seq #[y, x] } }) :
    wpAny (model prog w) A (getItem (.ref t) (.ref sl)) Q E s := by
  obtain ⟨os, hos, hcs, hds⟩ := id hs
  have hTs : s.TypeIs (.ref sl) "slice" := ⟨os, hos, hcs⟩
  unfold getItem
  try with_reducible refine wpAny_holding ?_
  first | refine wpAny_bind (wpAny_pure ?_) | skip
  refine wpAny_bind (wpAny_sequenceKey ht.typeIs (by decide) (wpAny_bind (wpAny_callSpecial?_slot (name := Str.ofString "__getitem__") ht.typeIs PyProof.Rows.slot_tuple_getitem (wpAny_call_entry PyProof.Rows.slot_tuple_getitem ht.typeIs PyProof.Rows.entry_tuple_getitem ?_ (PyProof.Rows.args_tuple_getitem _ _)))))
  show wpAny _ _ (Builtin.Tuple.tupleItemsOf (.ref t) >>= _) _ _ s
  refine wpAny_bind (tupleItemsOf_ ht (wpAny_bind (wpAny_typeOf hTs ?_)))
  rw [if_pos (by decide)]
  refine wpAny_bind (applied_back hs ?_)
  show wpAny _ _ (if ((1 : Int) == 0 && (-1 : Int) == 1 && (2 : Nat) == 2) = true then _ else _) _ _ s
  rw [if_neg (by decide)]
  have pk : ((List.range 2).filterMap fun (k : Nat) => (#[x, y] : Array Value)[((1 : Int) + (k : Int) * (-1)).toNat]?).toArray = #[y, x] := rfl
  rw [pk]
  first
    | exact wpAny_bind (m := Builtin.Tuple.tupleExact _) (wpAny_newObj_type (wpAny_pure ⟨_, rfl, wpAny_pure h⟩) (by show 2 ≤ sizeLine; decide))
    | exact wpAny_bind (m := Builtin.Tuple.tupleExact _) (wpAny_newObj_type (wpAny_bind (wpAny_pure (wpAny_pure ⟨_, rfl, wpAny_pure h⟩))) (by show 2 ≤ sizeLine; decide))
    | exact wpAny_bind (wpAny_bind (m := Builtin.Tuple.tupleExact _) (wpAny_newObj_type (wpAny_pure (wpAny_pure ⟨_, rfl, wpAny_pure h⟩)) (by show 2 ≤ sizeLine; decide)))
    | exact wpAny_bind (wpAny_bind (m := Builtin.Tuple.tupleExact _) (wpAny_newObj_type (wpAny_pure ⟨_, rfl, wpAny_pure h⟩) (by show 2 ≤ sizeLine; decide)))
end
section
variable {X : Cx}
end
end L2
end
section
set_option maxHeartbeats 4000001
namespace L2
open PySem PySem.Spec PyProof.Rows Own
theorem meets_tidx (l : Addr) (o : Obj) (items : Array Value) (n : Nat) (x : Value) (j : Nat) (hc : o.cls = .type "tuple") (hd : o.data = .seq items n) (e : Nat → Bool) (h0 : ∀ i, i < j → e i = false) (h1 : e j = true) (hj : j < items.size) :
    Meets (Builtin.«tuple.index» ⟨[.ref l, x], []⟩) (fun A R s => s.heap.get? l = some o ∧ (∀ i (h : i < items.size), SeqAt.EqAt A.in1 s items[i] x (e i)) ∧ R (.ok (.ret (.int j s.toks))) { s with toks := s.toks + 1 }) :=
  .of_wp fun prog w A R s h => by
    cases s with
    | mk hp gs dr tk os =>
    obtain ⟨hl, he, h⟩ := h
    unfold Builtin.«tuple.index»
    simp only [Std.Legacy.Range.forIn_eq_forIn_range']
    wp_walk using wpAny_seqItems hl hd, wpAny_forIn_list _ (fun rest b s' => s' = ⟨hp, gs, dr, tk, os⟩ ∧ b.1 = none ∧ ∃ i, i ≤ j ∧ rest = List.range' i (items.size - i)) _
    case turn =>
      rintro i rest b s' ⟨rfl, hb, i', hi, hz⟩
      have hs : items.size - i' = (items.size - (i' + 1)) + 1 := by lia
      rw [hs, List.range'_succ] at hz
      injection hz with e1 e2
      subst e1
      have il : i < items.size := by lia
      have hg : items[i]? = some items[i] := by simp [il]
      simp only [hg]
      refine wpAny_bind (he i il prog w _ _ ?_)
      by_cases q : i = j
      · subst q; rw [h1]; wp_walk; exact ⟨_, rfl, h⟩
      · rw [h0 i (by lia)]; wp_walk; exact ⟨rfl, rfl, i + 1, by lia, e2⟩
    case fin =>
      rintro b s' ⟨rfl, hb, i', hi, hz⟩
      have := congrArg List.length hz
      simp at this
      lia
    case h => exact ⟨rfl, rfl, 0, Nat.zero_le _, by simp [Std.Legacy.Range.size]⟩
section
variable {X : Cx}
theorem idx_before : ∀ {ns : List Int} {k : Int} {i : Nat}, i < ns.idxOf k → (ns.getD i 0 == k) = false
  | [], k, i, h => by simp at h
  | n :: ns, k, i, h => by
    rw [List.idxOf_cons] at h
    cases e : n == k with
    | true => rw [e] at h; simp at h
    | false =>
      rw [e] at h
      simp only [cond_false] at h
      cases i with
      | zero => exact e
      | succ i => exact idx_before (ns := ns) (i := i) (by lia)
def tTidx (to : TE) (t : TA) : TE := fun σ H Q => to σ H fun x H1 => ∃ a ns, x = .ref a ∧ H1 a = some (.tup (List.map V.int ns)) ∧ t σ H1 fun vs H2 => ∃ k : Int, vs = [.int k] ∧ H2 a = some (.tup (List.map V.int ns)) ∧ k ∈ ns ∧ Q (.int (ns.idxOf k : Nat)) H2
theorem pe_tidx {o e : Expr} {to : TE} {t : TA} {apos cpos : Pos} (hu : X.A.units + 64 < cLine) (ho : PE X o to) (ha : PA X [e] t)
    (hbase : attributeBase o "index" X.env (eval o X.env) = eval o X.env := by rfl)
    (hfew : ((backTo cpos (starEach [e] X.env)).all (fun x => !x.1) && (backToKw cpos (keywordEach [] X.env)).all (fun x => x.1.isSome) && decide ([e].length + ([] : List Keyword).length + (if ([] : List Keyword).isEmpty then 0 else 1) < 30)) = true := by rfl)
    (hline : (apos.endLine == cpos.line) = true := by rfl) (hs : starEach [e] X.env = (false, eval e X.env) :: starEach [] X.env := by rfl) : PE X (.Call (.Attribute o "index" apos) [e] [] cpos) (tTidx to t) := by
  intro pins s σ H Q I h
  refine wpAny_Call_method_late hbase hfew hline rfl (thn (ho pins s σ H _ I h) fun v s1 ⟨x, H1, I1, r1, a, ns, ex, hx, q1⟩ => ?_)
  subst ex
  cases r1
  obtain ⟨_, its, _, ⟨ob, eo, c1, n1, d1, nd⟩⟩ := (show ObjOk X.prog X.w H1 s1.heap a (.tup (List.map V.int ns)) from I1.hok a _ hx)
  refine ⟨"tuple", "tuple.index", PySem.F.plainAttrs_tuple, PySem.F.slot_tuple_index, PySem.F.type_tuple_index, ⟨ob, eo, c1⟩, fun a' e' => by cases e'; exact ⟨ob, eo, nd⟩, ?_⟩
  have hA := ha cpos pins s1 σ H1 _ I1 q1
  rw [hs] at hA ⊢
  refine Calls.callWith_builtin rfl (Calls.evalArgs_plain ?_)
  refine thn hA fun us s2 ⟨vs, H2, I2, r2, k, ev, hx2, km, q⟩ => ?_
  subst ev
  obtain ⟨u, rfl, tk, rfl⟩ := r2.one
  obtain ⟨_, jts, rj, ⟨ob2, eo2, c2, n2, d2, nd2⟩⟩ := (show ObjOk X.prog X.w H2 s2.heap a (.tup (List.map V.int ns)) from I2.hok a _ hx2)
  have hlen : jts.toArray.size = ns.length := by rw [List.size_toArray, ← rj.length, List.length_map]
  have hj := List.idxOf_lt_length_of_mem km
  refine call_meets PySem.F.slot_tuple_index ⟨ob2, eo2, c2⟩ PySem.F.entry_tuple_index (PySem.F.args_tuple_index_2 _ _)
    (meets_tidx a ob2 jts.toArray n2 (.int k tk) (ns.idxOf k) c2 d2 (fun i => ns.getD i 0 == k) (fun i hi => ?_) ?_ (by rw [hlen]; exact hj)) ⟨eo2, fun i hi => ?_, ?_⟩
  · exact idx_before hi
  · rw [List.getD_eq_getElem?_getD, List.getElem?_eq_getElem hj]
    simp
  · have hi' : i < ns.length := by rw [← hlen]; exact hi
    obtain ⟨w1, e1, t1, rfl⟩ := rj.get (show (List.map V.int ns)[i]? = some (V.int (ns.getD i 0)) by rw [List.getElem?_map, List.getD_eq_getElem?_getD, List.getElem?_eq_getElem hi']; rfl)
    have g1 : jts.toArray[i] = .int (ns.getD i 0) t1 := by simpa using (List.getElem?_eq_some_iff.mp e1).2
    rw [g1]
    exact (MeetsSeq.EqGives.int _ _ _ _).at _ _
  · exact ⟨.int _, H2, I2.tok _, ⟨_, rfl⟩, q⟩
end
end L2
end
section
set_option maxHeartbeats 4000001
namespace L2
open PySem PySem.Spec PyProof.Rows Own
section
variable {X : Cx}
end
end L2
end
section
set_option maxHeartbeats 4000001
namespace Bn
open PySem L2 Own
def Tups (H H' : Hp) : Prop := ∀ a xs, H a = some (.tup xs) → H' a = some (.tup xs)
theorem Tups.trans {H H1 H2 : Hp} (x : Tups H H1) (y : Tups H1 H2) : Tups H H2 := fun a xs e => y a xs (x a xs e)
theorem Tups.of {H H' : Hp} (s : Same H H') : Tups H H' := fun a _ e => s a _ e
theorem Tups.lst {H : Hp} {l : Addr} {xs ys : List V} (h : H l = some (.lst xs)) : Tups H (upd H l (.lst ys)) := fun a zs e => by
  rw [upd_ne (by rintro rfl; rw [h] at e; cases e)]; exact e
def But (l : Addr) (H H' : Hp) : Prop := ∀ b o, H b = some o → b ≠ l → H' b = some o
theorem But.trans {l : Addr} {H H1 H2 : Hp} (x : But l H H1) (y : But l H1 H2) : But l H H2 := fun b o e n => y b o (x b o e n) n
theorem But.of {l : Addr} {H H1 : Hp} (x : Same H H1) : But l H H1 := fun b o e _ => x b o e
structure PkAt (H : Hp) (l : Addr) : Prop where
  ex : ∃ a b : Int, H l = some (.lst [.int a, .int b]) ∧ 0 ≤ a ∧ 0 ≤ b ∧ b < 2 ^ 31
theorem PkAt.keep {H H' : Hp} {l : Addr} (S : PkAt H l) (s : Same H H') : PkAt H' l := by
  obtain ⟨a, b, h, r⟩ := S.ex
  exact ⟨a, b, s _ _ h, r⟩
theorem PkAt.ne {H : Hp} {l p : Addr} (S : PkAt H l) (h : H p = none) : l ≠ p := by
  obtain ⟨a, b, e, _⟩ := S.ex
  exact ne_of_none e h
theorem PkAt.upd {H : Hp} {l p : Addr} {o : HO} (S : PkAt H l) (h : l ≠ p) : PkAt (upd H p o) l := by
  obtain ⟨a, b, e, r⟩ := S.ex
  exact ⟨a, b, by rw [upd_ne h]; exact e, r⟩
theorem But.tups {H H' : Hp} {l : Addr} (x : But l H H') (S : PkAt H l) : Tups H H' := fun a xs e => x a _ e (by
  rintro rfl
  obtain ⟨_, _, z, _⟩ := S.ex
  rw [z] at e; cases e)
def Prs (H : Hp) : List V → List (Nat × Nat) → Prop
  | [], [] => True
  | p :: ps, f :: fs => (∃ a, p = .ref a ∧ H a = some (.tup [.int f.1, .int f.2])) ∧ Prs H ps fs
  | _, _ => False
theorem Prs.tups {H H' : Hp} (t : Tups H H') : ∀ {ps : List V} {fs : List (Nat × Nat)}, Prs H ps fs → Prs H' ps fs
  | [], [], _ => trivial
  | _ :: _, _ :: _, ⟨⟨a, e, h⟩, r⟩ => ⟨⟨a, e, t _ _ h⟩, r.tups t⟩
theorem Prs.len {H : Hp} : ∀ {ps : List V} {fs : List (Nat × Nat)}, Prs H ps fs → ps.length = fs.length
  | [], [], _ => rfl
  | _ :: _, _ :: _, ⟨_, r⟩ => congrArg (· + 1) r.len
theorem Prs.add {H : Hp} {a : Addr} {f : Nat × Nat} (h : H a = some (.tup [.int f.1, .int f.2])) : ∀ {ps : List V} {fs : List (Nat × Nat)}, Prs H ps fs → Prs H (ps ++ [.ref a]) (fs ++ [f])
  | [], [], _ => ⟨⟨a, rfl, h⟩, trivial⟩
  | _ :: _, _ :: _, ⟨x, r⟩ => ⟨x, r.add h⟩
theorem Prs.get {H : Hp} : ∀ {ps : List V} {fs : List (Nat × Nat)} {i : Nat} {p : V}, Prs H ps fs → ps[i]? = some p → ∃ a f, p = .ref a ∧ fs[i]? = some f ∧ H a = some (.tup [.int f.1, .int f.2])
  | [], [], _, _, _, e => by simp at e
  | _ :: _, f :: _, 0, p, ⟨⟨a, e1, h⟩, _⟩, e => by
    have : _ = p := Option.some.inj e
    subst this
    exact ⟨a, f, e1, rfl, h⟩
  | _ :: _, _ :: _, i + 1, p, ⟨_, r⟩, e => r.get (i := i) (by simpa using e)
structure Nt where
  lanes : Nat
  forks : List (Nat × Nat)
  ends : List Nat
structure Nt.Ok (N : Nt) : Prop where
  l1 : 1 ≤ N.lanes
  l16 : N.lanes ≤ 16
  fm : N.forks.length ≤ 128
  fk : ∀ f ∈ N.forks, f.1 < N.lanes ∧ f.2 < N.lanes ∧ f.1 ≠ f.2
  en : N.ends.Perm (List.range N.lanes)
def nums (es : List Nat) : List V := es.map fun (e : Nat) => V.int e
structure NetAt (H : Hp) (r fr er : Addr) (ps : List V) (N : Nt) : Prop where
  net : H r = some (.tup [.int N.lanes, .ref fr, .ref er])
  forks : H fr = some (.tup ps)
  prs : Prs H ps N.forks
  ends : H er = some (.tup (nums N.ends))
theorem NetAt.tups {H H' : Hp} {r fr er : Addr} {ps : List V} {N : Nt} (t : Tups H H') (h : NetAt H r fr er ps N) : NetAt H' r fr er ps N := ⟨t _ _ h.net, t _ _ h.forks, h.prs.tups t, t _ _ h.ends⟩
theorem at_int {cs : List Int} {i : Nat} (h : i < cs.length) : atI (cs.map V.int) ((i : Nat) : Int) = some (.int (cs.getD i 0)) := by
  refine atI_nat ?_
  rw [List.getElem?_map, List.getD_eq_getElem?_getD, List.getElem?_eq_getElem h]; rfl
theorem ix_at {α : Type} {xs : List α} {i : Nat} (h : i < xs.length) : ixN xs.length ((i : Nat) : Int) = some i := by
  unfold ixN
  rw [if_pos (by lia), if_pos (by lia)]; simp
structure Mgs (mg : Str → Option Value) : Prop where
  len : mg "len" = none
  range : mg "range" = none
  tuple : mg "tuple" = none
  enum : mg "enumerate" = none
  abs : mg "abs" = none
  zip : mg "zip" = none
  isi : mg "isinstance" = none
  all : mg "all" = none
  sum : mg "sum" = none
  bool : mg "bool" = none
  int : mg "int" = none
  str : mg "str" = none
  max : mg "max" = none
  min : mg "min" = none
  sorted : mg "sorted" = none
  list : mg "list" = none
structure Use (P : Program) (w : World) (K : PySem.W.Frag) (mg : Str → Option Value) (base : Heap) (x : Str) (ps : List Str) (k : Nat) (sp : Sp) (f : Addr) (fd : FuncData) : Prop where
  ok : FnOk P w K mg base CX0 k f fd ps sp
  b : Binds K fd ps []
  kp : PySem.W.keepIn K (.ref f) = true
  m : mg x = some (.ref f)
def spCell (K : PySem.W.Frag) : Sp := fun vs H Q _ => ∃ (a : Addr) (ns : List Int) (k : Int), vs = [.ref a, .int k] ∧ SqL K H a (ns.map V.int) ∧ 0 ≤ k ∧ ∀ x : Int, Q (.int x) H
def spLeft (K : PySem.W.Frag) : Sp := fun vs H Q _ => ∃ (a : Addr) (ns : List Int) (k : Int), vs = [.ref a, .int k] ∧ SqL K H a (ns.map V.int) ∧ ns.length ≤ 63 ∧ 0 ≤ k ∧ k ≤ 1000 ∧ ∀ l H', H l = none → Same H H' → PkAt H' l → Q (.ref l) H'
def spPick : Sp := fun vs H Q _ => ∃ (l : Addr) (m : Int), vs = [.ref l, .int m] ∧ 0 < m ∧ m < 1073741824 ∧ PkAt H l ∧ ∀ (v : Nat) H', (v : Int) < m → PkAt H' l → But l H H' → Q (.int v) H'
def Frs (l : Addr) (H : Hp) (x : Addr) : Prop := ∀ b o, H b = some o → b ≠ l → b ≠ x
theorem But.frs {l x : Addr} {H H1 : Hp} (B : But l H H1) (h : H1 x = none) : Frs l H x := fun b o e n => ne_of_none (B b o e n) h
theorem But.upd {l x : Addr} {H H1 : Hp} {o : HO} (B : But l H H1) (f : Frs l H x) : But l H (upd H1 x o) := fun b u e n => by rw [upd_ne (f b u e n)]; exact B b u e n
theorem pick_at {xs : List Nat} {v : Nat} (h : v < xs.length) : ∃ n, n ∈ xs ∧ atI (nums xs) ((v : Nat) : Int) = some (.int n) := by
  refine ⟨xs[v], List.getElem_mem h, atI_nat ?_⟩
  unfold nums
  rw [List.getElem?_map, List.getElem?_eq_getElem h]; rfl
theorem nums_len (es : List Nat) : (nums es).length = es.length := by simp [nums]
theorem other_ok {one d lanes : Nat} (h1 : one < lanes) (h2 : d + 1 < lanes) : (one + 1 + d) % lanes < lanes ∧ one ≠ (one + 1 + d) % lanes := by
  refine ⟨Nat.mod_lt _ (by lia), fun e => ?_⟩
  by_cases z : one + 1 + d < lanes
  · rw [Nat.mod_eq_of_lt z] at e; lia
  · rw [Nat.mod_eq_sub_mod (by lia), Nat.mod_eq_of_lt (by lia)] at e; lia
theorem ones_pos (k : Nat) : 0 < PySem.NumText.digitsVal (49 :: List.replicate k 48) := by
  unfold PySem.NumText.digitsVal
  have go : ∀ (k acc : Nat), 0 < acc → 0 < (List.replicate k 48).foldl (fun acc c => acc * 10 + (c - 48)) acc := fun k => by
    induction k with
    | zero => intro acc h; exact h
    | succ k ih => intro acc h; rw [List.replicate_succ, List.foldl_cons]; exact ih _ (by lia)
  rw [List.foldl_cons]
  exact go k _ (by decide)
theorem long_ok {z : Str} {k : Nat} (hz : z.cps.toList = List.replicate k 48) : PySem.NumText.AllDigits ((("1" : Str) ++ z).cps.toList) ∧ (("1" : Str) ++ z).length = k + 1 ∧ 0 < PySem.NumText.digitsVal ((("1" : Str) ++ z).cps.toList) := by
  have e : (("1" : Str) ++ z).cps.toList = 49 :: List.replicate k 48 := by
    show ((("1" : Str).cps ++ z.cps).toList) = _
    rw [Array.toList_append, hz]; rfl
  refine ⟨?_, ?_, ?_⟩
  · rw [e]
    intro c hc
    rcases List.mem_cons.mp hc with q | q
    · lia
    · have := List.eq_of_mem_replicate q; lia
  · have := congrArg List.length e
    rw [Array.length_toList] at this
    show (("1" : Str) ++ z).cps.size = k + 1
    rw [this, List.length_cons, List.length_replicate]
  · rw [e]; exact ones_pos k
end Bn
end
section
set_option maxHeartbeats 4000001
namespace L2
open PySem PySem.Spec PyProof.Rows Own
section
variable {X : Cx}
theorem eqV_self {x : V} (h : flatV x = true) : eqV x x = true := by
  cases x <;> first | rfl | (simp [eqV]; done) | exact absurd (show false = true from h) Bool.false_ne_true
theorem eqAt_flat {A : Around} {s : Shared} {x : V} {u v : Value} (f : flatV x = true) (r1 : RelV x u) (r2 : RelV x v) : SeqAt.EqAt A s u v true := by
  have := eqAt_V (A := A) (s := s) r1 r2 f f
  rwa [eqV_self f] at this
end
end L2
end
section
set_option maxHeartbeats 4000001
namespace L2
open PySem PySem.Spec PyProof.Rows Own
section
variable {prog : Program} {w : World} {A : Around} {E : Value → Shared → Prop} {s : Shared}
end
section
variable {X : Cx}
end
end L2
end
section
set_option maxHeartbeats 4000001
namespace L2
open PySem PySem.Spec PyProof.Rows Own
section
variable {prog : Program} {w : World} {A : Around} {R : Result → Shared → Prop} {I S : Addr} {fp wr : List Addr} {n : Nat} {P B : Nat → Value → Prop} {St : Nat → Heap → Prop}
end
section
variable {prog : Program} {w : World} {A : Around} {E : Value → Shared → Prop} {s : Shared}
end
section
variable {X : Cx} {e e2 : Expr} {ta tb : TE} {p kp pos : Pos}
end
end L2
end
section
set_option maxHeartbeats 4000001
namespace L2
open PySem PySem.Spec PyProof.Rows Own
section
variable {X : Cx}
end
end L2
end
section
set_option maxHeartbeats 4000001
namespace L2
open PySem PySem.Spec PyProof.Rows Own
section
variable {X : Cx}
theorem ints_eqAt {A : Around} {s : Shared} {ns ms : List Int} {its jts : List Value} (r1 : Vals (ns.map V.int) its) (r2 : Vals (ms.map V.int) jts) (j : Nat) (h1 : j < its.toArray.size) (h2 : j < jts.toArray.size) :
    SeqAt.EqAt A s its.toArray[j] jts.toArray[j] (eqV ((ns.map V.int).getD j .non) ((ms.map V.int).getD j .non)) := by
  have k1 : j < (ns.map V.int).length := by rw [r1.length]; simpa using h1
  have k2 : j < (ms.map V.int).length := by rw [r2.length]; simpa using h2
  obtain ⟨a, ea, qa⟩ := r1.get (List.getElem?_eq_getElem k1)
  obtain ⟨b, eb, qb⟩ := r2.get (List.getElem?_eq_getElem k2)
  have ga : its.toArray[j] = a := by simpa using (List.getElem?_eq_some_iff.mp ea).2
  have gb : jts.toArray[j] = b := by simpa using (List.getElem?_eq_some_iff.mp eb).2
  have fl := flat_ints ns
  have fm := flat_ints ms
  rw [ga, gb, List.getD_eq_getElem?_getD, List.getD_eq_getElem?_getD, List.getElem?_eq_getElem k1, List.getElem?_eq_getElem k2]
  exact eqAt_V qa qb (List.all_eq_true.mp fl _ (List.getElem_mem k1)) (List.all_eq_true.mp fm _ (List.getElem_mem k2))
theorem all_same {ns ms : List Int} (h : ns.length = ms.length) : ((List.range ns.length).all fun j => eqV ((ns.map V.int).getD j .non) ((ms.map V.int).getD j .non)) = decide (ns = ms) := by
  rw [← all_eq ns ms, List.length_map, List.length_map, h, Nat.min_self, beq_self_eq_true, Bool.and_true]
theorem op_eqLi (hu : X.A.units < cLine) : OpR X (compareOp .Eq) (fun x y H Q => ∃ a b ns ms, x = .ref a ∧ y = .ref b ∧ SqL X.K H a (List.map V.int ns) ∧ SqL X.K H b (List.map V.int ms) ∧ Q (.bl (decide (ns = ms))) H) := by
  rintro pins s σ H x y v u Q I rx ry ⟨a, b, ns, ms, rfl, rfl, ha, hb, q⟩
  cases rx; cases ry
  obtain ⟨its, r1, p1, _⟩ := I.list ha
  obtain ⟨jts, r2, p2, _⟩ := I.list hb
  have l1 : its.length = ns.length := by rw [← r1.length, List.length_map]
  have l2 : jts.length = ms.length := by rw [← r2.length, List.length_map]
  by_cases e : ns.length = ms.length
  · refine SeqAt.RcAt.lists p1.isList p2.isList (by simpa [l1, l2] using e) hu (ints_eqAt r1 r2) X.prog X.w _ _ ?_
    rw [List.size_toArray, l1, all_same e]
    exact ⟨.bl _, H, I, rfl, q⟩
  · refine SeqAt.RcAt.lists_lengths p1.isList p2.isList (by simpa [l1, l2] using e) hu X.prog X.w _ _ ?_
    rw [decide_eq_false (fun z => e (congrArg List.length z))] at q
    exact ⟨.bl _, H, I, rfl, q⟩
end
end L2
end
section
set_option maxHeartbeats 4000001
namespace L2
open PySem PySem.Spec PyProof.Rows Own
section
variable {X : Cx}
end
end L2
end
section
set_option maxHeartbeats 4000001
namespace L2
open PySem PySem.Spec PyProof.Rows PySem.Calls PySem.NumText Own
section
variable {prog : Program} {w : World} {A : Around} {E : Value → Shared → Prop} {s : Shared}
theorem applied_fwd {sl : Addr} {t : Tok} {Q : Int × Int × Nat → Shared → Prop} (hs : s.heap.IsSliceOf sl .none .none (.int 1 t)) (h : Q (0, 1, 2) s) : wpAny (model prog w) A (Builtin.Slice.sliceApplied (.ref sl) (pure (2 : Int))) Q E s := by
  have hs' := hs; obtain ⟨os, hos, hcs, hds⟩ := hs'
  unfold Builtin.Slice.sliceApplied Builtin.Slice.sliceFields
  refine wpAny_bind (wpAny_bind (wpAny_field hos hds (x := .none) rfl (wpAny_bind (wpAny_field hos hds (x := .none) rfl (wpAny_bind (wpAny_field hos hds (x := .int 1 t) rfl (wpAny_pure ?_)))))))
  refine wpAny_bind (slicePart_int ?_); show wpAny _ _ (if ((1 : Int) == 0) = true then _ else _) _ _ s
  rw [if_neg (by decide)]
  refine wpAny_bind (slicePart_none (wpAny_bind (slicePart_none (wpAny_bind (wpAny_pure ?_)))))
  show wpAny _ _ (match Builtin.Slice.sliceAdjust none none 1 (2 : Int) with | (lo, hi) => pure (lo, (1 : Int), Builtin.Slice.slicePlaces lo hi 1)) _ _ s
  have e : Builtin.Slice.sliceAdjust none none 1 (2 : Int) = (0, 2) := by decide
  have e2 : Builtin.Slice.slicePlaces (0 : Int) 2 1 = 2 := by decide
  rw [e]; show wpAny _ _ (pure ((0 : Int), (1 : Int), Builtin.Slice.slicePlaces (0 : Int) 2 1)) _ _ s
  rw [e2]; exact wpAny_pure h
theorem getItem_fwd {t sl : Addr} {x y : Value} {tk : Tok} {Q : Value → Shared → Prop} (ht : IsTup s.heap t #[x, y]) (hs : s.heap.IsSliceOf sl .none .none (.int 1 tk)) (h : Q (.ref t) s) :
    wpAny (model prog w) A (getItem (.ref t) (.ref sl)) Q E s := by
  have hs' := hs; obtain ⟨os, hos, hcs, hds⟩ := hs'
  have hTs : s.TypeIs (.ref sl) "slice" := ⟨os, hos, hcs⟩
  unfold getItem; try with_reducible refine wpAny_holding ?_
  first | refine wpAny_bind (wpAny_pure ?_) | skip
  refine wpAny_bind (wpAny_sequenceKey ht.typeIs (by decide) (wpAny_bind (wpAny_callSpecial?_slot (name := Str.ofString "__getitem__") ht.typeIs PyProof.Rows.slot_tuple_getitem (wpAny_call_entry PyProof.Rows.slot_tuple_getitem ht.typeIs PyProof.Rows.entry_tuple_getitem ?_ (PyProof.Rows.args_tuple_getitem _ _)))))
  show wpAny _ _ (Builtin.Tuple.tupleItemsOf (.ref t) >>= _) _ _ s
  refine wpAny_bind (tupleItemsOf_ ht (wpAny_bind (wpAny_typeOf hTs ?_))); rw [if_pos (by decide)]
  refine wpAny_bind (applied_fwd hs ?_); show wpAny _ _ (if ((0 : Int) == 0 && (1 : Int) == 1 && (2 : Nat) == 2) = true then _ else _) _ _ s
  rw [if_pos (by decide)]
  refine wpAny_bind (?_ : wpAny _ _ (Builtin.Tuple.tupleIsExact (.ref t)) _ _ s)
  unfold Builtin.Tuple.tupleIsExact; refine wpAny_bind (wpAny_typeOf ht.typeIs (wpAny_pure ?_))
  rw [if_pos (by decide)]; exact wpAny_bind (wpAny_rule (wpAny_pure ⟨_, rfl, wpAny_pure h⟩))
end
section
variable {X : Cx}
def tTurn (K : PySem.W.Frag) (te : TE) (ts : TO) : TE := fun σ H Q => te σ H fun x H1 => ts σ H1 fun o H2 => ∃ a u v, x = .ref a ∧ SqT K H2 a [u, v] ∧ ((o = some 1 ∧ Q (.ref a) H2) ∨ (o = some (-1) ∧ ∀ p, H2 p = none → Q (.ref p) (upd H2 p (.tup [v, u]))))
theorem pe_turn {e st : Expr} {te : TE} {ts : TO} {p2 pos : Pos} (he : PE X e te) (hs : PO X (some st) ts) : PE X (.Subscript e (.Slice none none (some st) p2) pos) (tTurn X.K te ts) := by
  intro pins s σ H Q I h
  refine Subscript_ (thn (he pins s σ H _ I h) fun v s1 ⟨x, H1, I1, r1, q1⟩ => wpAny_Slice ?_)
  rw [evalPart_none]; refine wpAny_pure (wpAny_pure (thn (hs pins s1 σ H1 _ I1 q1) fun vst s2 ⟨o, H2, I2, po, q2⟩ => ?_))
  obtain ⟨a, u1, u2, rfl, hq, k⟩ := q2
  cases r1
  rcases k with ⟨rfl, k⟩ | ⟨rfl, k⟩
  · obtain ⟨t, rfl⟩ : ∃ t, vst = .int 1 t := by cases po; exact ⟨_, rfl⟩
    have I3 : Inv X pins σ H2 { s2 with heap := s2.heap.push { cls := .type "slice", data := .fields #[.none, .none, .int 1 t] } } := I2.kept (t' := s2.toks) fun b ob q => Heap.get?_push_of_some _ q
    obtain ⟨its, r, ht, hz⟩ := I3.tuple hq
    obtain ⟨w1, w2, rfl, g1, g2⟩ := r.two
    show wpAny (model X.prog X.w) X.A (subscriptTail e (.Slice none none (some st) p2) (.ref a) (.ref s2.heap.objs.size)) (EP X pins σ Q) X.xe { s2 with heap := s2.heap.push { cls := .type "slice", data := .fields #[.none, .none, .int 1 t] } }
    refine tail_any (ops := [.ref a, .ref s2.heap.objs.size]) ht.typeIs PyProof.Rows.slot_tuple_getitem.lookup (getItem_fwd ht (Heap.IsSliceOf.new ..) ?_) (by with_unfolding_all rfl)
    exact ⟨.ref _, _, I3, rfl, k⟩
  · obtain ⟨t, rfl⟩ : ∃ t, vst = .int (-1) t := by cases po; exact ⟨_, rfl⟩
    have I3 : Inv X pins σ H2 { s2 with heap := s2.heap.push { cls := .type "slice", data := .fields #[.none, .none, .int (-1) t] } } := I2.kept (t' := s2.toks) fun b ob q => Heap.get?_push_of_some _ q
    obtain ⟨its, r, ht, hz⟩ := I3.tuple hq
    obtain ⟨w1, w2, rfl, g1, g2⟩ := r.two
    show wpAny (model X.prog X.w) X.A (subscriptTail e (.Slice none none (some st) p2) (.ref a) (.ref s2.heap.objs.size)) (EP X pins σ Q) X.xe { s2 with heap := s2.heap.push { cls := .type "slice", data := .fields #[.none, .none, .int (-1) t] } }
    refine tail_any (ops := [.ref a, .ref s2.heap.objs.size]) ht.typeIs PyProof.Rows.slot_tuple_getitem.lookup (getItem_back ht (Heap.IsSliceOf.new ..) ?_) (by with_unfolding_all rfl)
    exact ⟨.ref _, _, I3.laid (t' := s2.toks) (o := .tup [u2, u1]) (fun b ob q => Heap.get?_push_of_some _ q) (Nat.le_refl _) ⟨by show 2 ≤ sizeLine; decide, [w2, w1], .cons g2 (.cons g1 .nil), TupX.new _ _⟩, rfl, k _ (I3.hok.fresh (Nat.le_refl _))⟩
theorem call_intShort : CallR X (.type "int") (fun vs H Q => ∃ x : Str, vs = [.str x] ∧ AllDigits x.cps.toList ∧ 0 < x.length ∧ x.length ≤ 640 ∧ Q (.int (digitsVal x.cps.toList : Nat)) H) := by
  rintro pins s σ H vs us Q I rv ⟨x, rfl, hd, h0, h6, q⟩
  obtain ⟨u, rfl, t, rfl⟩ := rv.one
  have xl : x.cps.toList.length = x.length := by simp [Str.length]
  have ne : x.cps.toList ≠ [] := fun z => by rw [z] at xl; simp at xl; lia
  exact PySem.W.KIN.call_text (intText_digits hd ne (by lia)) h6 ⟨.int _, H, I.tok _, ⟨_, rfl⟩, q⟩
end
end L2
end
section
set_option maxHeartbeats 4000001
namespace Bn
open PySem L2 Own
def nm (ns : List Nat) (i : Nat) : Nat := ns.getD i 0
section
variable {ns : List Nat} {n : Nat} (pm : ns.Perm (List.range n))
include pm
end
def Nt.again (N : Nt) (f : Nat × Nat) : Nt := ⟨N.lanes, N.forks ++ [f], N.ends⟩
end Bn
end
section
set_option maxHeartbeats 4000001
namespace K97
open PySem L2 Own Bn
def top (i : Nat) : Stmt := PySem.Challenge.pw_stairlanes_k97_balls_at_their_paces.main.body.getD i (.Pass ⟨0, 0, 0, 0⟩)
abbrev sCell : Stmt := top 15
abbrev sLeft : Stmt := top 16
abbrev sPick : Stmt := top 17
section
variable {P : Program} {w : World} {K : PySem.W.Frag} {mg : Str → Option Value} {base : Heap}
theorem scC : FnScope ["_law_script", "_law_k"] ["_law_script", "_law_k"] (defScope sCell) := ⟨rfl, rfl, rfl, by decide +kernel, rfl, by decide +kernel, by decide +kernel⟩
theorem ok_cell {f : Addr} {fd : FuncData} (F : Fun K "_law_cell_at" "_law_cell_at" sCell f fd) (G : Mgs mg) : FnOk P w K mg base CX0 1 f fd ["_law_script", "_law_k"] (spCell K) := by
  refine F.ok scC (fun vs H Q E h => ?_) (fun cdv A outer s H vs Q E hr h => ?_)
  · obtain ⟨a, ns, k, rfl, _⟩ := h
    rfl
  obtain ⟨a, ns, k, rfl, hS, k0, q⟩ := h
  refine ⟨_, (@pss_cons _ _ _ _ _ (@ps_if _ _ _ _ _ _ _ _ (@pt_cmpR _ _ _ _ _ _ _ _ op_lt (@pv _ 1 _ _ (by rfl) (by first | exact Or.inl rfl | exact Or.inr (Or.inl rfl) | exact Or.inr (Or.inr rfl)) (by decide) (by decide)) (@pe_callB _ _ _ _ _ _ _ _ _ call_len_seq (by rfl) G.len PySem.boot_len (@pa_cons _ _ _ _ _ (@pv _ 0 _ _ (by rfl) (by first | exact Or.inl rfl | exact Or.inr (Or.inl rfl) | exact Or.inr (Or.inr rfl)) (by decide) (by decide)) pa_nil (by rfl)) (by decide) (by decide) (by rfl) (by rfl)) (nomark _)) (@pss_one _ _ _ (@ps_ret _ _ _ _ (@pe_ix _ _ _ _ _ _ _ ix_list (@pv _ 0 _ _ (by rfl) (by first | exact Or.inl rfl | exact Or.inr (Or.inl rfl) | exact Or.inr (Or.inr rfl)) (by decide) (by decide)) (@pv _ 1 _ _ (by rfl) (by first | exact Or.inl rfl | exact Or.inr (Or.inl rfl) | exact Or.inr (Or.inr rfl)) (by decide) (by decide)) (fun _ _ => rfl)))) pss_nil) (@pss_one _ _ _ (@ps_ret _ _ _ _ pe_int))), ?_⟩
  refine ⟨_, rfl, _, rfl, a, _, rfl, .inl hS, _, _, rfl, rfl, _, rfl, ite2 (fun z => ?_) (fun z => ?_)⟩
  · obtain ⟨j, rfl⟩ := Int.eq_ofNat_of_zero_le k0
    have hj : j < ns.length := by have := of_decide_eq_true z; rw [List.length_map] at this; lia
    exact ⟨_, rfl, _, rfl, a, _, _, _, rfl, rfl, hS, at_int hj, q _⟩
  · exact q 0
theorem scK : FnScope ["_law_left_here", "_law_many", "_law_digit"] ["_law_left_here", "_law_many"] (defScope sPick) := ⟨rfl, rfl, rfl, by decide +kernel, rfl, by decide +kernel, by decide +kernel⟩
theorem ok_pick {f : Addr} {fd : FuncData} (F : Fun K "_law_pick" "_law_pick" sPick f fd) : FnOk P w K mg base CX0 1 f fd ["_law_left_here", "_law_many"] spPick := by
  refine F.ok scK (fun vs H Q E h => ?_) (fun cdv A outer s H vs Q E hr h => ?_)
  · obtain ⟨l, m, rfl, _⟩ := h
    rfl
  obtain ⟨l, m, rfl, m0, m1, S, k⟩ := h
  obtain ⟨a, b, hl, a0, b0, b1⟩ := S.ex
  refine ⟨_, (@pss_cons _ _ _ _ _ (@ps_if _ _ _ _ _ _ _ _ (@pt_cmpR _ _ _ _ _ _ _ _ op_gt (@pe_ix _ _ _ _ _ _ _ ix_list (@pv _ 0 _ _ (by rfl) (by first | exact Or.inl rfl | exact Or.inr (Or.inl rfl) | exact Or.inr (Or.inr rfl)) (by decide) (by decide)) pe_int (fun _ _ => rfl)) pe_int (nomark _)) (@pss_cons _ _ _ _ _ (@ps_set _ _ 2 _ _ _ _ scK.nd rfl (Or.inl rfl) (@pe_op _ _ _ _ _ _ _ _ op_mod (@pe_ix _ _ _ _ _ _ _ ix_list (@pv _ 0 _ _ (by rfl) (by first | exact Or.inl rfl | exact Or.inr (Or.inl rfl) | exact Or.inr (Or.inr rfl)) (by decide) (by decide)) pe_int (fun _ _ => rfl)) (@pv _ 1 _ _ (by rfl) (by first | exact Or.inl rfl | exact Or.inr (Or.inl rfl) | exact Or.inr (Or.inr rfl)) (by decide) (by decide))) (by rfl) (by first | exact .inl rfl | exact .inr rfl | assumption)) (@pss_cons _ _ _ _ _ (@ps_asg _ _ _ _ _ _ (@pe_op _ _ _ _ _ _ _ _ op_fdiv (@pe_ix _ _ _ _ _ _ _ ix_list (@pv _ 0 _ _ (by rfl) (by first | exact Or.inl rfl | exact Or.inr (Or.inl rfl) | exact Or.inr (Or.inr rfl)) (by decide) (by decide)) pe_int (fun _ _ => rfl)) (@pv _ 1 _ _ (by rfl) (by first | exact Or.inl rfl | exact Or.inr (Or.inl rfl) | exact Or.inr (Or.inr rfl)) (by decide) (by decide))) (@pg_sub _ _ _ _ _ _ _ (@pv _ 0 _ _ (by rfl) (by first | exact Or.inl rfl | exact Or.inr (Or.inl rfl) | exact Or.inr (Or.inr rfl)) (by decide) (by decide)) pe_int set_list (by intro _; rfl)) (by rfl) (by rfl) (by rfl)) (@pss_one _ _ _ (@ps_ret _ _ _ _ (@pv _ 2 _ _ (by rfl) (by first | exact Or.inl rfl | exact Or.inr (Or.inl rfl) | exact Or.inr (Or.inr rfl)) (by decide) (by decide)))))) pss_nil) (@pss_cons _ _ _ _ _ (@ps_asg _ _ _ _ _ _ (@pe_op _ _ _ _ _ _ _ _ op_mod (@pe_op _ _ _ _ _ _ _ _ op_add (@pe_op _ _ _ _ _ _ _ _ op_mul (@pe_ix _ _ _ _ _ _ _ ix_list (@pv _ 0 _ _ (by rfl) (by first | exact Or.inl rfl | exact Or.inr (Or.inl rfl) | exact Or.inr (Or.inr rfl)) (by decide) (by decide)) pe_int (fun _ _ => rfl)) pe_int) pe_int) pe_int) (@pg_sub _ _ _ _ _ _ _ (@pv _ 0 _ _ (by rfl) (by first | exact Or.inl rfl | exact Or.inr (Or.inl rfl) | exact Or.inr (Or.inr rfl)) (by decide) (by decide)) pe_int set_list (by intro _; rfl)) (by rfl) (by rfl) (by rfl)) (@pss_one _ _ _ (@ps_ret _ _ _ _ (@pe_op _ _ _ _ _ _ _ _ op_mod (@pe_op _ _ _ _ _ _ _ _ op_mod (@pe_op _ _ _ _ _ _ _ _ op_mul (@pe_ix _ _ _ _ _ _ _ ix_list (@pv _ 0 _ _ (by rfl) (by first | exact Or.inl rfl | exact Or.inr (Or.inl rfl) | exact Or.inr (Or.inr rfl)) (by decide) (by decide)) pe_int (fun _ _ => rfl)) (@pe_ix _ _ _ _ _ _ _ ix_list (@pv _ 0 _ _ (by rfl) (by first | exact Or.inl rfl | exact Or.inr (Or.inl rfl) | exact Or.inr (Or.inr rfl)) (by decide) (by decide)) pe_int (fun _ _ => rfl))) pe_int) (@pv _ 1 _ _ (by rfl) (by first | exact Or.inl rfl | exact Or.inr (Or.inl rfl) | exact Or.inr (Or.inr rfl)) (by decide) (by decide))))))), ?_⟩
  have fin : ∀ (x : Int) (H' : Hp), 0 ≤ x → x < m → PkAt H' l → But l H H' → Q (.int x) H' := fun x H' x0 x1 S' B' => by
    obtain ⟨v, rfl⟩ := Int.eq_ofNat_of_zero_le x0
    exact k v H' x1 S' B'
  refine ⟨_, rfl, l, _, _, _, rfl, rfl, SqL.of hl, rfl, _, _, rfl, rfl, _, rfl, ite2 (fun q => ?_) (fun q => ?_)⟩
  · refine ⟨_, rfl, l, _, _, _, rfl, rfl, SqL.of hl, rfl, _, rfl, _, _, rfl, rfl, m0, ?_⟩
    refine ⟨_, rfl, l, _, _, _, rfl, rfl, SqL.of hl, rfl, _, rfl, _, _, rfl, rfl, ⟨m0, m1⟩, _, rfl, l, _, _, 0, rfl, rfl, hl, rfl, _, rfl, ?_⟩
    exact fin _ _ (Int.emod_nonneg _ (by lia)) (Int.emod_lt_of_pos _ m0) ⟨a / m, b, upd_same, Int.ediv_nonneg a0 (by lia), b0, b1⟩ fun x o e ne => by rw [upd_ne ne]; exact e
  · refine ⟨_, rfl, l, _, _, _, rfl, rfl, SqL.of hl, rfl, _, _, rfl, rfl, .inr ⟨by decide, by decide⟩, _, _, rfl, rfl, _, _, rfl, rfl, (by show (0 : Int) < 2147483647; decide), _, rfl, l, _, _, 1, rfl, rfl, hl, rfl, ?_⟩
    have g0 : 0 ≤ (b * 48271 + 12345) % 2147483647 := Int.emod_nonneg _ (by decide)
    have g1 : (b * 48271 + 12345) % 2147483647 < 2147483647 := Int.emod_lt_of_pos _ (by decide)
    generalize hH : upd H l (HO.lst ([V.int a, V.int b].set 1 (V.int ((b * 48271 + 12345) % 2147483647)))) = H1
    have h1 : H1 l = some (.lst [.int a, .int ((b * 48271 + 12345) % 2147483647)]) := by rw [← hH]; exact upd_same
    refine ⟨_, rfl, l, _, _, _, rfl, rfl, SqL.of h1, rfl, _, rfl, l, _, _, _, rfl, rfl, SqL.of h1, rfl, _, _, rfl, rfl, .inl ⟨by lia, by lia⟩, _, _, rfl, rfl, (by show (0 : Int) < 1999999973; decide), _, rfl, _, _, rfl, rfl, m0, ?_⟩
    exact fin _ _ (Int.emod_nonneg _ (by lia)) (Int.emod_lt_of_pos _ m0) ⟨a, _, h1, a0, g0, by lia⟩ fun x o e ne => by rw [← hH, upd_ne ne]; exact e
theorem scL : FnScope ["_law_script", "_law_k", "_law_cell", "_law_seed"] ["_law_script", "_law_k"] (defScope sLeft) := ⟨rfl, rfl, rfl, by decide +kernel, rfl, by decide +kernel, by decide +kernel⟩
theorem ok_left {f fC : Addr} {fd dC : FuncData} (F : Fun K "_law_left" "_law_left" sLeft f fd) (G : Mgs mg) (zd : PySem.W.nsIn K cStatics "sys.int_max_str_digits" = some none) (UC : Use P w K mg base "_law_cell_at" ["_law_script", "_law_k"] 1 (spCell K) fC dC) : FnOk P w K mg base CX0 2 f fd ["_law_script", "_law_k"] (spLeft K) := by
  refine F.ok scL (fun vs H Q E h => ?_) (fun cdv A outer s H vs Q E hr h => ?_)
  · obtain ⟨a, ns, k, rfl, _⟩ := h
    rfl
  obtain ⟨a, ns, k, rfl, hS, h63, k0, k1, q⟩ := h
  refine ⟨_, (@pss_cons _ _ _ _ _ (@ps_set _ _ 2 _ _ _ _ scL.nd rfl (Or.inl rfl) (@pe_call _ _ _ _ _ _ _ _ _ _ _ _ _ _ _ _ UC.ok hr (by rfl) UC.m UC.kp UC.b .nil pass0 (@pa_cons _ _ _ _ _ (@pv _ 0 _ _ (by rfl) (by first | exact Or.inl rfl | exact Or.inr (Or.inl rfl) | exact Or.inr (Or.inr rfl)) (by decide) (by decide)) (@pa_cons _ _ _ _ _ (@pe_op _ _ _ _ _ _ _ _ op_mod (@pv _ 1 _ _ (by rfl) (by first | exact Or.inl rfl | exact Or.inr (Or.inl rfl) | exact Or.inr (Or.inr rfl)) (by decide) (by decide)) (@pe_callB _ _ _ _ _ _ _ _ _ (call_max2 rfl) (by rfl) G.max (by rfl) (@pa_cons _ _ _ _ _ pe_int (@pa_cons _ _ _ _ _ (@pe_callB _ _ _ _ _ _ _ _ _ call_len_seq (by rfl) G.len PySem.boot_len (@pa_cons _ _ _ _ _ (@pv _ 0 _ _ (by rfl) (by first | exact Or.inl rfl | exact Or.inr (Or.inl rfl) | exact Or.inr (Or.inr rfl)) (by decide) (by decide)) pa_nil (by rfl)) (by decide) (by decide) (by rfl) (by rfl)) pa_nil (by rfl)) (by rfl)) (by decide) (by decide) (by rfl) (by rfl))) pa_nil (by rfl)) (by rfl)) (by decide) (by rfl) (by rfl)) (by rfl) (by first | exact .inl rfl | exact .inr rfl | assumption)) (@pss_cons _ _ _ _ _ (@ps_set _ _ 3 _ _ _ _ scL.nd rfl (Or.inl rfl) (@pe_op _ _ _ _ _ _ _ _ op_mod (@pe_op _ _ _ _ _ _ _ _ op_mul (@pe_op _ _ _ _ _ _ _ _ op_add (@pe_op _ _ _ _ _ _ _ _ op_add (@pe_op _ _ _ _ _ _ _ _ op_mod (@pv _ 2 _ _ (by rfl) (by first | exact Or.inl rfl | exact Or.inr (Or.inl rfl) | exact Or.inr (Or.inr rfl)) (by decide) (by decide)) pe_int) (@pe_op _ _ _ _ _ _ _ _ op_mul (@pe_op _ _ _ _ _ _ _ _ op_mul pe_int (@pv _ 1 _ _ (by rfl) (by first | exact Or.inl rfl | exact Or.inr (Or.inl rfl) | exact Or.inr (Or.inr rfl)) (by decide) (by decide))) (@pv _ 1 _ _ (by rfl) (by first | exact Or.inl rfl | exact Or.inr (Or.inl rfl) | exact Or.inr (Or.inr rfl)) (by decide) (by decide)))) pe_int) pe_int) pe_int) (by rfl) (by first | exact .inl rfl | exact .inr rfl | assumption)) (@pss_one _ _ _ (@ps_ret _ _ _ _ (@pe_lst _ _ _ _ (@pa_cons _ _ _ _ _ (@pe_op _ _ _ _ _ _ _ _ op_mod (@pe_op _ _ _ _ _ _ _ _ op_mul (@pe_callB _ _ _ _ _ _ _ _ _ call_abs (by rfl) G.abs (by rfl) (@pa_cons _ _ _ _ _ (@pv _ 2 _ _ (by rfl) (by first | exact Or.inl rfl | exact Or.inr (Or.inl rfl) | exact Or.inr (Or.inr rfl)) (by decide) (by decide)) pa_nil (by rfl)) (by decide) (by decide) (by rfl) (by rfl)) (@pe_callTy _ _ _ _ _ _ _ _ _ call_int1 (by rfl) G.int (by rfl) (@pa_cons _ _ _ _ _ (@pe_cmpR _ _ _ _ _ _ _ _ op_ge (@pe_callB _ _ _ _ _ _ _ _ _ call_abs (by rfl) G.abs (by rfl) (@pa_cons _ _ _ _ _ (@pv _ 2 _ _ (by rfl) (by first | exact Or.inl rfl | exact Or.inr (Or.inl rfl) | exact Or.inr (Or.inr rfl)) (by decide) (by decide)) pa_nil (by rfl)) (by decide) (by decide) (by rfl) (by rfl)) (@pe_op _ _ _ _ _ _ _ _ op_pow pe_int pe_int) (nomark _)) pa_nil (by rfl)) (by decide) (by decide) (by rfl) (by rfl))) (@pe_callTy _ _ _ _ _ _ _ _ _ (call_intLong zd) (by rfl) G.int (by rfl) (@pa_cons _ _ _ _ _ (@pe_op _ _ _ _ _ _ _ _ op_add_str pe_str (@pe_op _ _ _ _ _ _ _ _ op_repS pe_str pe_int)) pa_nil (by rfl)) (by decide) (by decide) (by rfl) (by rfl))) (@pa_cons _ _ _ _ _ (@pv _ 3 _ _ (by rfl) (by first | exact Or.inl rfl | exact Or.inr (Or.inl rfl) | exact Or.inr (Or.inr rfl)) (by decide) (by decide)) pa_nil (by rfl)) (by rfl))))))), ?_⟩
  refine ⟨_, rfl, _, rfl, _, rfl, a, _, rfl, .inl hS, _, _, rfl, _, _, rfl, rfl, ?_, ?_⟩
  · split <;> lia
  refine ⟨a, ns, _, rfl, hS, Int.emod_nonneg _ (by split <;> lia), fun x => ?_⟩
  refine ⟨_, rfl, _, _, rfl, rfl, (by show (0 : Int) < 2147483629; decide), _, rfl, _, _, rfl, rfl, .inl ⟨by decide, by decide⟩, _, rfl, _, _, rfl, rfl, .inr ⟨by lia, by lia⟩, _, _, rfl, rfl, _, _, rfl, rfl, _, _, rfl, rfl, .inr ⟨by decide, by decide⟩, _, _, rfl, rfl, (by show (0 : Int) < 2147483647; decide), ?_⟩
  have g0 := Int.emod_nonneg ((x % 2147483629 + 7919 * k * k + 11) * 48271) (show (2147483647 : Int) ≠ 0 by decide)
  have g1 := Int.emod_lt_of_pos ((x % 2147483629 + 7919 * k * k + 11) * 48271) (show (0 : Int) < 2147483647 by decide)
  refine ⟨_, rfl, _, rfl, _, rfl, _, rfl, _, _, rfl, rfl, ⟨by decide, by decide, by decide⟩, _, _, rfl, rfl, .inr ⟨_, rfl, _, _, rfl, rfl, .inr ?_, ?_⟩⟩
  · have c : ∀ b : Bool, -2 ^ 64 < (if b = true then (1 : Int) else 0) ∧ (if b = true then (1 : Int) else 0) < 2 ^ 64 := by decide
    exact c _
  refine ⟨48, 2000, rfl, rfl, by decide, by decide, fun z hz => ?_⟩
  obtain ⟨d1, d2, d3⟩ := long_ok hz
  have zl : z.length = 2000 := by
    have := congrArg List.length hz
    rw [Array.length_toList, List.length_replicate] at this
    exact this
  refine ⟨_, _, rfl, rfl, by rw [zl]; decide, _, rfl, d1, by lia, by lia, _, _, rfl, rfl, by lia, _, rfl, (by show 2 ≤ sizeLine; decide), fun l hl => ?_⟩
  exact q l _ hl (same_new hl _) ⟨_, _, upd_same, Int.emod_nonneg _ (by lia), g0, by lia⟩
end
end K97
end
section
set_option maxHeartbeats 4000001
namespace L2
open PySem PySem.Spec PyProof.Rows Own
section
variable {X : Cx}
theorem ps_dead {st : Stmt} : PS X st (fun _ _ _ => False) := fun _ _ _ _ _ _ h => h.elim
end
def AnyT (K : PySem.W.Frag) (H : Hp) (x : V) : Prop := ∃ T, TyOf K H x T ∧ ∃ t : String, T = .type t
def wholeV : V → Bool
  | .int _ => true
  | _ => false
def belowV (b : Int) : V → Bool
  | .int i => decide (0 ≤ i) && decide (i < b)
  | _ => false
def rowOf (H : Hp) : V → Option (List V)
  | .ref a => match H a with
    | some (.tup xs) => some xs
    | _ => none
  | _ => none
structure Isi (K : PySem.W.Frag) (H : Hp) (x : V) (t : Value) : Prop where
  ty : TyOf K H x t
  int : PySem.W.kitOne K t (.type "int") = some (match x with | .int _ => true | .bl _ => true | _ => false)
  bool : PySem.W.kitOne K t (.type "bool") = some (match x with | .bl _ => true | _ => false)
  str : PySem.W.kitOne K t (.type "str") = some (match x with | .str _ => true | _ => false)
  tup : PySem.W.kitOne K t (.type "tuple") = some (rowOf H x).isSome
theorem isi_mk {K : PySem.W.Frag} {H : Hp} {x : V} {T : Value} (h : TyOf K H x T) (et : ∃ t, T = .type t) : Isi K H x T := by
  cases h with
  | ins e _ _ _ _ _ => obtain ⟨t, et⟩ := et; cases et
  | lst e => exact ⟨.lst e, rfl, rfl, rfl, by simp only [rowOf, e]; rfl⟩
  | frz e => exact ⟨.frz e, rfl, rfl, rfl, by simp only [rowOf, e]; rfl⟩
  | tup e => exact ⟨.tup e, rfl, rfl, rfl, by simp only [rowOf, e]; rfl⟩
  | dK e => exact ⟨.dK e, rfl, rfl, rfl, by simp only [rowOf, e]; rfl⟩
  | dT e => exact ⟨.dT e, rfl, rfl, rfl, by simp only [rowOf, e]; rfl⟩
  | non => exact ⟨.non, rfl, rfl, rfl, rfl⟩
  | bl b => exact ⟨.bl b, rfl, rfl, rfl, rfl⟩
  | int i => exact ⟨.int i, rfl, rfl, rfl, rfl⟩
  | str x => exact ⟨.str x, rfl, rfl, rfl, rfl⟩
  | flt x => exact ⟨.flt x, rfl, rfl, rfl, rfl⟩
theorem AnyT.isi {K : PySem.W.Frag} {H : Hp} {x : V} (h : AnyT K H x) : ∃ t, Isi K H x t :=
  let ⟨T, h, et⟩ := h
  ⟨T, isi_mk h et⟩
end L2
end
section
set_option maxHeartbeats 4000001
namespace K97
open PySem L2 Own Bn
abbrev sWhole : Stmt := top 2
abbrev sBelow : Stmt := top 3
def spWhole (K : PySem.W.Frag) : Sp := fun vs H Q _ => ∃ x, vs = [x] ∧ AnyT K H x ∧ Q (.bl (wholeV x)) H
def spBelow (K : PySem.W.Frag) : Sp := fun vs H Q _ => ∃ x b, vs = [x, .int b] ∧ AnyT K H x ∧ Q (.bl (belowV b x)) H
section
variable {P : Program} {w : World} {K : PySem.W.Frag} {mg : Str → Option Value} {base : Heap}
theorem scKw : FnScope ["thing"] ["thing"] (defScope sWhole) := ⟨rfl, rfl, rfl, by decide +kernel, rfl, by decide +kernel, by decide +kernel⟩
theorem ok_whole {f : Addr} {fd : FuncData} (F : Fun K "is_whole" "is_whole" sWhole f fd) (G : Mgs mg) : FnOk P w K mg base CX0 1 f fd ["thing"] (spWhole K) := by
  refine F.ok scKw (fun vs H Q E h => ?_) (fun cdv A outer s H vs Q E hr h => ?_)
  · obtain ⟨x, rfl, _⟩ := h
    rfl
  obtain ⟨x, rfl, ax, k⟩ := h
  refine ⟨_, (@pss_one _ _ _ (@ps_ret _ _ _ _ (@pe_and _ _ _ _ _ _ _ (@pe_callB _ _ _ _ _ _ _ _ _ call_isi (by rfl) G.isi (by rfl) (@pa_cons _ _ _ _ _ (@pv _ 0 _ _ (by rfl) (by first | exact Or.inl rfl | exact Or.inr (Or.inl rfl) | exact Or.inr (Or.inr rfl)) (by decide) (by decide)) (@pa_cons _ _ _ _ _ (@pe_bltn _ _ (.ty "int") (.type "int") _ (by rfl) G.int (by rfl) rfl (by decide) (by decide)) pa_nil (by rfl)) (by rfl)) (by decide) (by decide) (by rfl) (by rfl)) (@pe_one _ _ _ _ _ (@pe_not _ _ _ _ (@pe_callB _ _ _ _ _ _ _ _ _ call_isi (by rfl) G.isi (by rfl) (@pa_cons _ _ _ _ _ (@pv _ 0 _ _ (by rfl) (by first | exact Or.inl rfl | exact Or.inr (Or.inl rfl) | exact Or.inr (Or.inr rfl)) (by decide) (by decide)) (@pa_cons _ _ _ _ _ (@pe_bltn _ _ (.ty "bool") (.type "bool") _ (by rfl) G.bool (by rfl) rfl (by decide) (by decide)) pa_nil (by rfl)) (by rfl)) (by decide) (by decide) (by rfl) (by rfl))))))), ?_⟩
  obtain ⟨t, I⟩ := ax.isi
  refine ⟨_, rfl, _, "int", _, _, rfl, I.ty, I.int, _, rfl, ?_⟩
  cases x with
  | int i => exact iteT ⟨_, rfl, _, "bool", _, _, rfl, I.ty, I.bool, _, rfl, k⟩
  | bl b => exact iteT ⟨_, rfl, _, "bool", _, _, rfl, I.ty, I.bool, _, rfl, k⟩
  | non => exact iteF k
  | str z => exact iteF k
  | flt z => exact iteF k
  | byt z => exact iteF k
  | ref z => exact iteF k
  | ty z => exact iteF k
theorem scKb : FnScope ["thing", "bound"] ["thing", "bound"] (defScope sBelow) := ⟨rfl, rfl, rfl, by decide +kernel, rfl, by decide +kernel, by decide +kernel⟩
theorem ok_below {f fW : Addr} {fd dW : FuncData} (F : Fun K "is_below" "is_below" sBelow f fd) (G : Mgs mg) (UW : Use P w K mg base "is_whole" ["thing"] 1 (spWhole K) fW dW) : FnOk P w K mg base CX0 2 f fd ["thing", "bound"] (spBelow K) := by
  refine F.ok scKb (fun vs H Q E h => ?_) (fun cdv A outer s H vs Q E hr h => ?_)
  · obtain ⟨x, b, rfl, _⟩ := h
    rfl
  obtain ⟨x, b, rfl, ax, k⟩ := h
  refine ⟨_, (@pss_one _ _ _ (@ps_ret _ _ _ _ (@pe_and _ _ _ _ _ _ _ (@pe_call _ _ _ _ _ _ _ _ _ _ _ _ _ _ _ _ UW.ok hr (by rfl) UW.m UW.kp UW.b .nil pass0 (@pa_cons _ _ _ _ _ (@pv _ 0 _ _ (by rfl) (by first | exact Or.inl rfl | exact Or.inr (Or.inl rfl) | exact Or.inr (Or.inr rfl)) (by decide) (by decide)) pa_nil (by rfl)) (by decide) (by rfl) (by rfl)) (@pe_one _ _ _ _ _ (@pe_chain _ _ _ _ _ _ _ _ _ _ _ _ op_le op_lt pe_int (@pv _ 0 _ _ (by rfl) (by first | exact Or.inl rfl | exact Or.inr (Or.inl rfl) | exact Or.inr (Or.inr rfl)) (by decide) (by decide)) (@pv _ 1 _ _ (by rfl) (by first | exact Or.inl rfl | exact Or.inr (Or.inl rfl) | exact Or.inr (Or.inr rfl)) (by decide) (by decide)) (by with_unfolding_all rfl)))))), ?_⟩
  refine ⟨_, rfl, _, rfl, ax, _, rfl, ?_⟩
  cases x with
  | int i =>
    refine iteT ⟨_, rfl, _, _, rfl, rfl, _, rfl, ?_⟩
    have e : belowV b (.int i) = (decide (0 ≤ i) && decide (i < b)) := rfl
    rw [e] at k
    by_cases z : (0 : Int) ≤ i
    · rw [decide_eq_true z] at k ⊢
      exact iteT ⟨_, rfl, _, _, rfl, rfl, k⟩
    · rw [decide_eq_false z] at k ⊢
      exact iteF k
  | bl z => exact iteF k
  | non => exact iteF k
  | str z => exact iteF k
  | flt z => exact iteF k
  | byt z => exact iteF k
  | ref z => exact iteF k
  | ty z => exact iteF k
end
end K97
end
section
set_option maxHeartbeats 4000001
namespace Bn
open PySem L2 Own
theorem idx_cast (k : Nat) : ∀ es : List Nat, (es.map fun (e : Nat) => (e : Int)).idxOf (k : Int) = es.idxOf k
  | [] => rfl
  | e :: es => by
    rw [List.map_cons, List.idxOf_cons, List.idxOf_cons, idx_cast k es]
    have : ((e : Int) == (k : Int)) = (e == k) := by
      rw [Bool.eq_iff_iff, beq_iff_eq]; rw [beq_iff_eq]; lia
    rw [this]
theorem nums_map (es : List Nat) : nums es = (es.map fun (e : Nat) => (e : Int)).map V.int := by unfold nums; rw [List.map_map]; rfl
def spEnd : Sp := fun vs H Q _ => ∃ r fr er ps N, ∃ lane : Nat, vs = [.ref r, .int lane] ∧ Nt.Ok N ∧ NetAt H r fr er ps N ∧ lane < N.lanes ∧ Q (.int (N.ends.idxOf lane : Nat)) H
end Bn
end
section
set_option maxHeartbeats 4000001
namespace K97
open PySem L2 Own Bn
abbrev sEnd : Stmt := top 9
section
variable {P : Program} {w : World} {K : PySem.W.Frag} {mg : Str → Option Value} {base : Heap}
theorem scD : FnScope ["net", "lane"] ["net", "lane"] (defScope sEnd) := ⟨rfl, rfl, rfl, by decide +kernel, rfl, by decide +kernel, by decide +kernel⟩
theorem ok_end {f : Addr} {fd : FuncData} (F : Fun K "end_of" "end_of" sEnd f fd) : FnOk P w K mg base CX0 1 f fd ["net", "lane"] spEnd := by
  refine F.ok scD (fun vs H Q E h => ?_) (fun cdv A outer s H vs Q E hr h => ?_)
  · obtain ⟨r, fr, er, ps, N, lane, rfl, _⟩ := h
    rfl
  obtain ⟨r, fr, er, ps, N, lane, rfl, ok, na, hl, k⟩ := h
  refine ⟨_, (@pss_one _ _ _ (@ps_ret _ _ _ _ (@pe_tidx _ _ _ _ _ _ _ hr.units (@pe_ix _ _ _ _ _ _ _ ix_tup (@pv _ 0 _ _ (by rfl) (by first | exact Or.inl rfl | exact Or.inr (Or.inl rfl) | exact Or.inr (Or.inr rfl)) (by decide) (by decide)) pe_int (fun _ _ => rfl)) (@pa_cons _ _ _ _ _ (@pv _ 1 _ _ (by rfl) (by first | exact Or.inl rfl | exact Or.inr (Or.inl rfl) | exact Or.inr (Or.inr rfl)) (by decide) (by decide)) pa_nil (by rfl)) (by rfl) (by rfl) (by rfl) (by rfl)))), ?_⟩
  have he := na.ends
  rw [nums_map] at he
  refine ⟨_, rfl, r, _, _, _, rfl, rfl, SqT.of na.net, rfl, er, _, rfl, he, _, rfl, (lane : Int), rfl, he, ?_, ?_⟩
  · exact List.mem_map.mpr ⟨lane, ok.en.mem_iff.mpr (List.mem_range.mpr hl), rfl⟩
  · rw [idx_cast]; exact k
end
end K97
end
section
set_option maxHeartbeats 4000001
namespace Bn
open PySem L2 Own
theorem inTwo (h a b : Nat) : inV (V.int h) [V.int a, V.int b] = decide (h = a ∨ h = b) := by
  by_cases e1 : h = a
  · subst e1; simp [inV, eqV]
  · by_cases e2 : h = b
    · subst e2; simp [inV, eqV]
    · have n1 : ¬ ((h : Int) = a) := by lia
      have n2 : ¬ ((h : Int) = b) := by lia
      simp [inV, eqV, e1, e2]; lia
structure IsNext (fs : List (Nat × Nat)) (lane n k : Nat) : Prop where
  from_ : n ≤ k
  upto : k ≤ fs.length
  none : ∀ j g, n ≤ j → j < k → fs[j]? = some g → ¬ (lane = g.1 ∨ lane = g.2)
  here : ∀ g, fs[k]? = some g → lane = g.1 ∨ lane = g.2
theorem IsNext.one {fs : List (Nat × Nat)} {lane n k m : Nat} (h : IsNext fs lane n k) (g : IsNext fs lane n m) : k = m := by
  have go : ∀ k m, IsNext fs lane n k → IsNext fs lane n m → ¬ k < m := fun k m h g z => by
    have kl : k < fs.length := Nat.lt_of_lt_of_le z g.upto
    exact g.none k fs[k] h.from_ z (List.getElem?_eq_getElem kl) (h.here _ (List.getElem?_eq_getElem kl))
  have a := go k m h g
  have b := go m k g h
  lia
structure Grp where
  many : Int
  lane : Nat
  fork : Nat
end Bn
end
section
set_option maxHeartbeats 4000001
namespace K97
open PySem L2 Own Bn
abbrev sNext : Stmt := top 8
def spNext : Sp := fun vs H Q _ => ∃ r fr er ps N, ∃ lane n : Nat, vs = [.ref r, .int lane, .int n] ∧ Nt.Ok N ∧ NetAt H r fr er ps N ∧ n ≤ N.forks.length ∧ ∀ k : Nat, IsNext N.forks lane n k → Q (.int k) H
section
variable {P : Program} {w : World} {K : PySem.W.Frag} {mg : Str → Option Value} {base : Heap}
theorem scNx : FnScope ["net", "lane", "number", "forks"] ["net", "lane", "number"] (defScope sNext) := ⟨rfl, rfl, rfl, by decide +kernel, rfl, by decide +kernel, by decide +kernel⟩
theorem ok_next {f : Addr} {fd : FuncData} (F : Fun K "next_fork" "next_fork" sNext f fd) (G : Mgs mg) : FnOk P w K mg base CX0 1 f fd ["net", "lane", "number"] spNext := by
  refine F.ok scNx (fun vs H Q E h => ?_) (fun cdv A outer s H vs Q E hr h => ?_)
  · obtain ⟨r, fr, er, ps, N, lane, n, rfl, _⟩ := h
    rfl
  obtain ⟨r, fr, er, ps, N, lane, n, rfl, ok, na, nl, k⟩ := h
  refine ⟨_, (@pss_cons _ _ _ _ _ (@ps_set _ _ 3 _ _ _ _ scNx.nd rfl (Or.inl rfl) (@pe_ix _ _ _ _ _ _ _ ix_tup (@pv _ 0 _ _ (by rfl) (by first | exact Or.inl rfl | exact Or.inr (Or.inl rfl) | exact Or.inr (Or.inr rfl)) (by decide) (by decide)) pe_int (fun _ _ => rfl)) (by rfl) (by first | exact .inl rfl | exact .inr rfl | assumption)) (@pss_cons _ _ _ _ _ (@ps_while _ _ _ _ _ _ PassesOwn.never (@pw_and _ _ _ _ _ _ _ (@pt_cmpR _ _ _ _ _ _ _ _ op_lt (@pv _ 2 _ _ (by rfl) (by first | exact Or.inl rfl | exact Or.inr (Or.inl rfl) | exact Or.inr (Or.inr rfl)) (by decide) (by decide)) (@pe_callB _ _ _ _ _ _ _ _ _ call_len_seq (by rfl) G.len PySem.boot_len (@pa_cons _ _ _ _ _ (@pv _ 3 _ _ (by rfl) (by first | exact Or.inl rfl | exact Or.inr (Or.inl rfl) | exact Or.inr (Or.inr rfl)) (by decide) (by decide)) pa_nil (by rfl)) (by decide) (by decide) (by rfl) (by rfl)) (nomark _)) (@pw_and1 _ _ _ _ (@pt_cmpR _ _ _ _ _ _ _ _ op_notIn_seq (@pv _ 1 _ _ (by rfl) (by first | exact Or.inl rfl | exact Or.inr (Or.inl rfl) | exact Or.inr (Or.inr rfl)) (by decide) (by decide)) (@pe_ix _ _ _ _ _ _ _ ix_tup (@pv _ 3 _ _ (by rfl) (by first | exact Or.inl rfl | exact Or.inr (Or.inl rfl) | exact Or.inr (Or.inr rfl)) (by decide) (by decide)) (@pv _ 2 _ _ (by rfl) (by first | exact Or.inl rfl | exact Or.inr (Or.inl rfl) | exact Or.inr (Or.inr rfl)) (by decide) (by decide)) (fun _ _ => rfl)) (by rfl)))).pt (@pss_one _ _ _ (@ps_aug _ _ 2 _ _ _ _ _ _ scNx.nd rfl (Or.inl rfl) pe_int ip_add (by first | exact .inl rfl | exact .inr rfl | assumption)))) (@pss_one _ _ _ (@ps_ret _ _ _ _ (@pv _ 2 _ _ (by rfl) (by first | exact Or.inl rfl | exact Or.inr (Or.inl rfl) | exact Or.inr (Or.inr rfl)) (by decide) (by decide)))))), ?_⟩
  have pl := na.prs.len
  have fm := ok.fm
  refine ⟨_, rfl, r, _, _, _, rfl, rfl, SqT.of na.net, rfl, ?_⟩
  refine ⟨fun m σ H1 => H1 = H ∧ ∃ q : Nat, σ = [some (.ref r), some (.int lane), some (.int q), some (.ref fr)] ∧ n ≤ q ∧ q ≤ N.forks.length ∧ m = N.forks.length - q ∧ ∀ j g, n ≤ j → j < q → N.forks[j]? = some g → ¬ (lane = g.1 ∨ lane = g.2),
    ⟨_, rfl, n, rfl, Nat.le_refl _, nl, rfl, fun j g h1 h2 => by lia⟩, ?_⟩
  rintro m σ H1 ⟨rfl, q, rfl, nq, ql, em, hno⟩
  refine ⟨_, rfl, _, rfl, fr, _, rfl, .inr (SqT.of na.forks), _, _, rfl, rfl, _, rfl, ?_⟩
  by_cases z : q < N.forks.length
  · rw [decide_eq_true (show (q : Int) < ps.length by lia)]
    obtain ⟨a, g, ex, eg, ha⟩ := na.prs.get (i := q) (List.getElem?_eq_getElem (show q < ps.length by lia))
    have hat : atI ps ((q : Nat) : Int) = some (.ref a) := atI_nat (by rw [List.getElem?_eq_getElem (show q < ps.length by lia), ex])
    refine iteT ⟨_, rfl, _, rfl, _, rfl, fr, _, _, _, rfl, rfl, SqT.of na.forks, hat, a, _, rfl, .inr (SqT.of ha), rfl, rfl, _, rfl, ?_⟩
    show if (if true = true then !inV (V.int (lane : Nat)) [V.int (g.1 : Nat), V.int (g.2 : Nat)] else inV (V.int (lane : Nat)) [V.int (g.1 : Nat), V.int (g.2 : Nat)]) = true then _ else _
    rw [if_pos rfl, inTwo]
    by_cases on : lane = g.1 ∨ lane = g.2
    · rw [decide_eq_true on]
      refine iteF ⟨_, rfl, k q ⟨nq, ql, hno, fun g' eg' => ?_⟩⟩
      rw [eg] at eg'; obtain rfl := Option.some.inj eg'; exact on
    · rw [decide_eq_false on]
      refine iteT ⟨_, fun σ' H' hN => ⟨m - 1, by lia, hN⟩, ?_⟩
      refine ⟨_, rfl, _, _, rfl, rfl, rfl, q + 1, rfl, by lia, by lia, by lia, fun j g' h1 h2 h3 => ?_⟩
      by_cases e : j = q
      · subst e; rw [eg] at h3; obtain rfl := Option.some.inj h3; exact on
      · exact hno j g' h1 (by lia) h3
  · rw [decide_eq_false (show ¬ (q : Int) < ps.length by lia)]
    refine iteF (iteF ⟨_, rfl, k q ⟨nq, ql, hno, fun g' eg' => ?_⟩⟩)
    have := (List.getElem?_eq_some_iff.mp eg').1
    lia
end
end K97
end
section
set_option maxHeartbeats 4000001
namespace Ts
open PySem PyProof.Rows
def R (rk : Keyed → Int) (xs : Array Keyed) (i : Nat) : Int := match xs[i]? with
  | some p => rk p
  | none => 0
section
variable {prog : Program} {w : World} {A : Around} {E : Value → Shared → Prop} {s : Shared} {κ : SortKind} {P : Keyed → Prop} {rk : Keyed → Int} {a₀ : Array Keyed}
end
end Ts
end
section
set_option maxHeartbeats 4000001
namespace Ts
open PySem PyProof.Rows
section
variable {prog : Program} {w : World} {A : Around} {E : Value → Shared → Prop} {s : Shared} {κ : SortKind} {P : Keyed → Prop} {rk : Keyed → Int} {a₀ : Array Keyed}
end
end Ts
end
section
set_option maxHeartbeats 4000001
namespace Ts
open PySem PyProof.Rows
section
variable {prog : Program} {w : World} {A : Around} {E : Value → Shared → Prop} {s : Shared} {κ : SortKind} {P : Keyed → Prop} {rk : Keyed → Int} {a₀ : Array Keyed}
end
end Ts
end
section
set_option maxHeartbeats 4000001
namespace Ts
open PySem PyProof.Rows
section
variable {rk : Keyed → Int} {T out a b c : List Keyed}
end
section
variable {rk : Keyed → Int} {T : List Keyed} {out a b : Array Keyed} {ia ib k : Nat} {p q : Keyed}
end
end Ts
end
section
set_option maxHeartbeats 4000001
namespace Ts
open PySem PyProof.Rows
section
variable {prog : Program} {w : World} {A : Around} {E : Value → Shared → Prop} {s : Shared} {κ : SortKind} {P : Keyed → Prop} {rk : Keyed → Int} {a₀ : Array Keyed}
end
end Ts
end
section
set_option maxHeartbeats 4000001
namespace Ts
open PySem PyProof.Rows
section
variable {rk : Keyed → Int} {T out a b c : List Keyed}
end
section
variable {rk : Keyed → Int} {T : List Keyed} {out a b : Array Keyed} {na nb i : Nat} {p q : Keyed}
end
section
variable {prog : Program} {w : World} {A : Around} {E : Value → Shared → Prop} {s : Shared} {κ : SortKind} {P : Keyed → Prop} {rk : Keyed → Int} {a₀ : Array Keyed}
end
end Ts
end
section
set_option maxHeartbeats 4000001
namespace Ts
open PySem PyProof.Rows
section
variable {rk : Keyed → Int}
end
section
variable {prog : Program} {w : World} {A : Around} {E : Value → Shared → Prop} {s : Shared} {κ : SortKind} {P : Keyed → Prop} {rk : Keyed → Int} {a₀ : Array Keyed}
end
end Ts
end
section
set_option maxHeartbeats 4000001
namespace Ts
open PySem PyProof.Rows
section
variable {prog : Program} {w : World} {A : Around} {E : Value → Shared → Prop} {s : Shared} {κ : SortKind} {P : Keyed → Prop} {rk : Keyed → Int} {a₀ : Array Keyed}
end
end Ts
end
section
set_option maxHeartbeats 4000001
namespace L2
open PySem PySem.Spec PyProof.Rows Own
theorem dk_empty {P : Program} {w : World} {H : Hp} (h : Heap) (hb : sysModules < h.objs.size) : ObjOk P w H (h.push { cls := .type "dict", data := .dict #[] }) h.objs.size (.dK []) :=
  ⟨Nat.zero_le _, beq_eq_false_iff_ne.mpr (Ne.symm (Nat.ne_of_lt hb)), [], .nil, Heap.DictOf.new h⟩
def tDNewK : TE := fun _ H Q => ∀ p, H p = none → Q (.ref p) (upd H p (.dK []))
section
variable {X : Cx} {pos : Pos}
theorem Inv.big {pins : List (Addr × Obj)} {σ : St} {H : Hp} {s : Shared} (I : Inv X pins σ H s) : sysModules < s.heap.objs.size := by
  have h : mainGlobals < s.heap.objs.size := (I.mod.glob.keeps I.bk).lt
  exact Nat.lt_trans (by decide) h
theorem pe_dnewK : PE X (.Dict [] [] pos) tDNewK := fun pins s σ H Q I h =>
  wpAny_Dict_empty ⟨.ref s.heap.objs.size, _, I.laid (a := s.heap.objs.size) (o := .dK []) (t' := s.toks) (fun _ _ q => Heap.get?_push_of_some _ q) (Nat.le_refl _) (dk_empty s.heap I.big), rfl, h _ (I.hok.fresh (Nat.le_refl _))⟩
end
end L2
namespace Bn
open PySem L2 Own
end Bn
end
section
set_option maxHeartbeats 4000001
namespace L2
open PySem PySem.Spec PyProof.Rows Own
def LtAt (A : Around) (s : Shared) (y x : Value) (b : Bool) : Prop := ∀ (prog : Program) (w : World) (E : Value → Shared → Prop) (Q : Value → Shared → Prop), Q (.bool b) s → wpAny (model prog w) A (richCompare .Lt y x) Q E s
theorem LtAt.ints {A : Around} {s : Shared} (a b : Int) (t u : Tok) : LtAt A s (.int a t) (.int b u) (decide (a < b)) := fun _ _ _ _ h => lt_int h
theorem ltTup_meets (l b : Addr) (xs ys : Array Value) (n m : Nat) (d1 d2 : Option Addr) (sl1 sl2 : Array (Option Value)) (k : Nat) (k1 : k < xs.size) (k2 : k < ys.size) (c : Bool) :
    Meets (Builtin.«tuple.__lt__» ⟨[.ref l, .ref b], []⟩)
      (fun A R s => s.heap.get? l = some { cls := .type "tuple", dict := d1, data := .seq xs n, slots := sl1 } ∧ s.heap.get? b = some { cls := .type "tuple", dict := d2, data := .seq ys m, slots := sl2 } ∧
        (∀ j (h1 : j < xs.size) (h2 : j < ys.size), j < k → SeqAt.EqAt A.in1 s xs[j] ys[j] true) ∧ SeqAt.EqAt A.in1 s xs[k] ys[k] false ∧ LtAt A.in1 s xs[k] ys[k] c ∧ R (.ok (.ret (.bool c))) s) :=
  .of_wp fun prog w A R s h => by
    obtain ⟨hp, g, d, tk, os⟩ := s; obtain ⟨hl, hb, he, hk, hc, h⟩ := h
    have kinds := AutoSeq1.sub_tuple_tuple
    have zl : (xs.toList.zip ys.toList).length = min xs.size ys.size := by simp
    wp_walk using wpAny_loadPart' hl, wpAny_loadPart' hb, wpAny_forIn_list _ (fun rest b s' => b.1 = none ∧ s' = ⟨hp, g, d, tk, os⟩ ∧ ∃ i, i ≤ k ∧ rest = (xs.toList.zip ys.toList).drop i) _
    case turn =>
      rintro ⟨y, x⟩ rest b s' ⟨hb', rfl, i, ik, hz⟩
      have i1 : i < xs.size := by lia
      have i2 : i < ys.size := by lia
      have il : i < (xs.toList.zip ys.toList).length := by rw [zl]; lia
      rw [List.drop_eq_getElem_cons il] at hz
      obtain ⟨e1, e2⟩ := List.cons.inj hz
      have ey : y = xs[i] := by simpa using congrArg Prod.fst e1
      have ex : x = ys[i] := by simpa using congrArg Prod.snd e1
      subst ey ex
      by_cases z : i = k
      · subst z
        refine wpAny_bind (hk prog w _ _ ?_)
        simp only [if_true, Bool.not_false]
        refine wpAny_bind (wpAny_rule (wpAny_bind (hc prog w _ _ ?_)))
        wp_walk
        exact ⟨_, rfl, h⟩
      · refine wpAny_bind (he i i1 i2 (by lia) prog w _ _ ?_)
        wp_walk
        exact ⟨rfl, rfl, i + 1, by lia, e2⟩
    case fin =>
      rintro ⟨b1, b2⟩ s' ⟨hb', rfl, i, ik, hz⟩
      have il : i < (xs.toList.zip ys.toList).length := by rw [zl]; lia
      rw [List.drop_eq_getElem_cons il] at hz; cases hz
    case h =>
      exact ⟨rfl, rfl, 0, Nat.zero_le _, rfl⟩
theorem LtAt.tuples {A : Around} {s : Shared} {l b : Addr} {xs ys : Array Value} {k : Nat} {c : Bool} (hl : IsTup s.heap l xs) (hb : IsTup s.heap b ys) (hu : A.units < cLine) (k1 : k < xs.size) (k2 : k < ys.size)
    (he : ∀ j (h1 : j < xs.size) (h2 : j < ys.size), j < k → SeqAt.EqAt A.in1 s xs[j] ys[j] true) (hk : SeqAt.EqAt A.in1 s xs[k] ys[k] false) (hc : LtAt A.in1 s xs[k] ys[k] c) : LtAt A s (.ref l) (.ref b) c := fun prog w E Q h => by
  obtain ⟨⟨cl1, dd1, da1, sl1⟩, o1, c1, n, e1⟩ := hl
  obtain ⟨⟨cl2, dd2, da2, sl2⟩, o2, c2, m, e2⟩ := hb
  simp only at c1 e1 c2 e2; subst c1 e1 c2 e2
  exact richCompare_meets_room (op := .Lt) ⟨_, o1, rfl⟩ ⟨_, o2, rfl⟩ F.slot_tuple_lt F.entry_tuple_lt (F.args_tuple_lt_2 _ _) (ltTup_meets l b xs ys n m dd1 dd2 sl1 sl2 k k1 k2 c) ⟨o1, o2, he, hk, hc, show Value.bool c ≠ Value.notImplemented ∧ Q (.bool c) s from ⟨(fun x => nomatch x), h⟩⟩ hu
section
variable {prog : Program} {w : World} {A : Around} {R : Result → Shared → Prop} {I S : Addr} {fp wr : List Addr} {n : Nat} {P : Nat → Value → Prop} {St : Nat → Heap → Prop}
end
section
variable {prog : Program} {w : World} {A : Around} {E : Value → Shared → Prop} {s : Shared}
end
section
variable {X : Cx}
end
end L2
end
section
set_option maxHeartbeats 4000001
namespace Ts
open PySem PyProof.Rows
section
variable {prog : Program} {w : World} {A : Around} {E : Value → Shared → Prop} {s : Shared}
end
end Ts
end
section
set_option maxHeartbeats 4000001
namespace Own
open PySem PySem.Spec PyProof.Rows
section
variable {prog : Program} {w : World} {A : Around} {E : Value → Shared → Prop} {s : Shared} {z TI TO i1 i2 : Addr} {f1 f2 : List Addr} {n1 n2 k : Nat} {P1 P2 : Nat → Value → Prop} {S1 S2 : Nat → Heap → Prop} {a b : Value}
end
end Own
end
section
set_option maxHeartbeats 4000001
namespace Own
open PySem PySem.Spec PyProof.Rows
section
variable {prog : Program} {w : World} {A : Around} {E : Value → Shared → Prop} {s : Shared} {z TI TO i1 i2 L : Addr} {f1 f2 : List Addr} {n n2 k : Nat} {P1 P2 : Nat → Value → Prop} {S1 S2 : Nat → Heap → Prop}
end
end Own
end
section
set_option maxHeartbeats 4000001
namespace Own
open PySem PySem.Spec PyProof.Rows Ts
section
variable {prog : Program} {w : World} {A : Around} {E : Value → Shared → Prop} {s : Shared}
end
end Own
namespace L2
open PySem PySem.Spec PyProof.Rows Own Ts
section
variable {X : Cx}
end
end L2
end
section
set_option maxHeartbeats 4000001
namespace L2
open PySem PySem.Spec PyProof.Rows Own Ts
section
variable {prog : Program} {w : World} {A : Around} {E : Value → Shared → Prop} {s : Shared}
end
section
variable {X : Cx}
end
section
variable {X : Cx}
end
end L2
end
section
set_option maxHeartbeats 4000001
namespace L2
open PySem PySem.Spec PyProof.Rows Own
section
variable {prog : Program} {w : World} {A : Around} {E : Value → Shared → Prop} {s : Shared}
end
section
variable {X : Cx}
end
section
variable {X : Cx}
end
end L2
end
section
set_option maxHeartbeats 4000001
namespace L2
open PySem PySem.Spec PyProof.Rows Own
section
variable {X : Cx}
end
theorem lc_enumT {K : PySem.W.Frag} {b : Bool} {a : Addr} {xs : List V} {g : TG} {tt : TT} {te : TE} {l : Addr} {σ : St} {H : Hp} {Q : VK} (Pv : Nat → List V → St → Hp → Prop) (h0 : Pv 0 [] σ H) (hl : ∀ i acc σ H, Pv i acc σ H → H l = some (.lst acc) ∧ SqB b K H a xs)
    (hs : ∀ (i : Nat) acc σ H x T, xs[i]? = some x → H T = none → Pv i acc σ H → g (.ref T) σ (upd H T (.tup [.int i, x])) fun σ3 H3 => tt σ3 H3 fun b H4 => if b = true then te σ3 H4 fun z H5 => H5 l = some (.lst acc) ∧ acc.length < sizeLine ∧ Nx xs.length i (Pv (i + 1) (acc ++ [z]) σ3 (upd H5 l (.lst (acc ++ [z])))) else Nx xs.length i (Pv (i + 1) acc σ3 H4))
    (hd : ∀ acc σ H, Pv xs.length acc σ H → Q (.ref l) H) : ∃ W : Nat → Nat → List V → St → Hp → Prop, (∃ m, W 0 m [] σ H) ∧ LCW (Ite K b a) g tt te l Q W := by
  refine ⟨fun i m acc σ H => m = xs.length - i ∧ i ≤ xs.length ∧ Pv i acc σ H, ⟨_, rfl, Nat.zero_le _, h0⟩, ?_⟩
  rintro i m acc σ H ⟨rfl, hi, p⟩
  obtain ⟨q0, q1⟩ := hl i acc σ H p
  refine ⟨q0, ?_⟩
  by_cases hlt : i < xs.length
  · refine .inr ⟨⟨xs, _, q1, List.getElem?_eq_getElem hlt⟩, fun v H2 ⟨y, ey, T, hT, e1, e2⟩ => ?_⟩
    subst e1 e2
    exact hs i acc σ H y T (ey xs q1) hT p
  · obtain rfl : i = xs.length := by lia
    exact .inl ⟨⟨xs, q1, rfl⟩, hd acc σ H p⟩
end L2
end
section
set_option maxHeartbeats 4000001
namespace Bn
open PySem L2 Own
def big (x y : Int) : Int := if y > x then y else x
def layStep (st : List Int × List Int) (f : Nat × Nat) : List Int × List Int :=
  ((st.1.set f.1 (1 + big (st.1.getD f.1 0) (st.1.getD f.2 0))).set f.2 (1 + big (st.1.getD f.1 0) (st.1.getD f.2 0)), st.2 ++ [1 + big (st.1.getD f.1 0) (st.1.getD f.2 0)])
def lay (n : Nat) (fs : List (Nat × Nat)) : List Int × List Int := fs.foldl layStep (List.replicate n 0, [])
def meets (g f : Nat × Nat) : Bool := decide (g.1 = f.1 ∨ g.1 = f.2) || decide (g.2 = f.1 ∨ g.2 = f.2)
def ahead (fs : List (Nat × Nat)) (fo : List Int) (f : Nat × Nat) (i : Nat) : List Int := ((List.range i).filter fun j => meets (fs.getD j (0, 0)) f).map fun j => fo.getD j 0
def layers (N : Nt) : List Int := (lay N.lanes N.forks).2
end Bn
end
section
set_option maxHeartbeats 4000001
namespace Bn
open PySem L2 Own
abbrev Fk := Nat × Nat
def run {σ α : Type} (step : σ → Fk → σ × α) : σ → List Fk → σ × List (α × Fk)
  | s, [] => (s, [])
  | s, f :: fs => ((run step (step s f).1 fs).1, ((step s f).2, f) :: (run step (step s f).1 fs).2)
def rnk (x : Int × Fk) : Int := x.1 * 1024 + x.2.1 * 32 + x.2.2
def ins (x : Int × Fk) : List (Int × Fk) → List (Int × Fk)
  | [] => [x]
  | y :: l => if rnk x ≤ rnk y then x :: y :: l else y :: ins x l
end Bn
end
section
set_option maxHeartbeats 4000001
namespace L2
open PySem PySem.Spec PyProof.Rows Own Ts
end L2
end
section
set_option maxHeartbeats 4000001
namespace Bn
open PySem L2 Own
theorem atNew {H : Hp} {a : Addr} (_ : H a = none) (o : HO) : L2.upd H a o a = some o := upd_same
end Bn
end
section
set_option maxHeartbeats 4000001
namespace L2
open PySem PySem.Spec PyProof.Rows Own
def rGetL (K : PySem.W.Frag) : V → V → Hp → VK → Prop := fun o i H Q => ∃ (p : Addr) (xs : List V) (j : Nat) (v : V), o = .ref p ∧ i = .int j ∧ SqL K H p xs ∧ xs[j]? = some v ∧ Q v H
theorem get_list {X : Cx} : PGet X (rGetL X.K) := by
  intro pins s σ H o i ov iv Q I ro ri h
  obtain ⟨p, xs, j, v, rfl, rfl, hq, hx, q⟩ := h
  cases ro
  obtain ⟨t, rfl⟩ := ri
  obtain ⟨its, r, pl, hz⟩ := I.list hq
  obtain ⟨u, eu, ru⟩ := r.get hx
  have jl := (List.getElem?_eq_some_iff.mp hx).1
  have z63 : sizeLine < 2 ^ 63 := by rw [sizeLine_eq]; decide
  exact wpAny_getItem_list pl.isList (Int.natCast_nonneg _) (by lia) (by simpa using eu) ⟨v, H, I, ru, q⟩
structure UseM (P : Program) (w : World) (K : PySem.W.Frag) (mg : Str → Option Value) (base : Heap) (C : Addr) (x : Str) (ps : List Str) (k : Nat) (sp : Sp) (f : Addr) (fd : FuncData) : Prop where
  ok : FnOk P w K mg base CX0 k f fd ps sp
  b : Binds K fd ps []
  mt : Meth K C x f
end L2
namespace Bn
open PySem L2 Own
def flds5 (n s p c u : Addr) : List (Str × V) := putF "numbers" (.ref u) (putF "came" (.ref c) (putF "spots" (.ref p) (putF "settings" (.ref s) (putF "net" (.ref n) []))))
section
variable {n s p c u : Addr}
theorem fl_net : (flds5 n s p c u).lookup ("net" : Str) = some (.ref n) := by
  unfold flds5
  rw [lookup_putF, if_neg (by decide +kernel), lookup_putF, if_neg (by decide +kernel), lookup_putF, if_neg (by decide +kernel), lookup_putF, if_neg (by decide +kernel), lookup_putF, if_pos rfl]
theorem fl_set : (flds5 n s p c u).lookup ("settings" : Str) = some (.ref s) := by
  unfold flds5
  rw [lookup_putF, if_neg (by decide +kernel), lookup_putF, if_neg (by decide +kernel), lookup_putF, if_neg (by decide +kernel), lookup_putF, if_pos rfl]
theorem fl_spo : (flds5 n s p c u).lookup ("spots" : Str) = some (.ref p) := by
  unfold flds5
  rw [lookup_putF, if_neg (by decide +kernel), lookup_putF, if_neg (by decide +kernel), lookup_putF, if_pos rfl]
theorem fl_cam : (flds5 n s p c u).lookup ("came" : Str) = some (.ref c) := by
  unfold flds5
  rw [lookup_putF, if_neg (by decide +kernel), lookup_putF, if_pos rfl]
theorem fl_num : (flds5 n s p c u).lookup ("numbers" : Str) = some (.ref u) := by
  unfold flds5
  rw [lookup_putF, if_pos rfl]
theorem fl_no {m : Str} (h1 : ¬ m = "numbers") (h2 : ¬ m = "came") (h3 : ¬ m = "spots") (h4 : ¬ m = "settings") (h5 : ¬ m = "net") : (flds5 n s p c u).lookup m = none := by
  unfold flds5
  rw [lookup_putF, if_neg h1, lookup_putF, if_neg h2, lookup_putF, if_neg h3, lookup_putF, if_neg h4, lookup_putF, if_neg h5]; rfl
end
structure Tst where
  sets : List Nat
  spots : List (Option (Nat × Nat))
  came : List Nat
  nms : List Nat
structure Tad where
  t : Addr
  r : Addr
  fr : Addr
  er : Addr
  ps : List V
  ls : Addr
  lp : Addr
  lc : Addr
  ln : Addr
def SpotAt (H : Hp) (v : V) : Option (Nat × Nat) → Prop
  | none => v = .non
  | some (l, k) => ∃ q, v = .ref q ∧ H q = some (.tup [.int (l : Nat), .int (k : Nat)])
def Spots (H : Hp) (sp : List V) (os : List (Option (Nat × Nat))) : Prop := sp.length = os.length ∧ ∀ (i : Nat) (v : V) (o : Option (Nat × Nat)), sp[i]? = some v → os[i]? = some o → SpotAt H v o
theorem SpotAt.tups {H H' : Hp} (t : Tups H H') {v : V} : ∀ {o : Option (Nat × Nat)}, SpotAt H v o → SpotAt H' v o
  | none, h => h
  | some (l, k), ⟨q, e, h⟩ => ⟨q, e, t _ _ h⟩
theorem Spots.tups {H H' : Hp} (t : Tups H H') {sp : List V} {os : List (Option (Nat × Nat))} (h : Spots H sp os) : Spots H' sp os := ⟨h.1, fun i v o a b => (h.2 i v o a b).tups t⟩
theorem Spots.add {H : Hp} {sp : List V} {os : List (Option (Nat × Nat))} (h : Spots H sp os) {v : V} {o : Option (Nat × Nat)} (hv : SpotAt H v o) : Spots H (sp ++ [v]) (os ++ [o]) := by
  refine ⟨by rw [List.length_append, List.length_append, h.1]; rfl, fun i v' o' a b => ?_⟩
  by_cases c : i < sp.length
  · rw [List.getElem?_append_left c] at a
    rw [List.getElem?_append_left (by rw [← h.1]; exact c)] at b
    exact h.2 i v' o' a b
  · rw [List.getElem?_append_right (by lia)] at a
    rw [List.getElem?_append_right (by rw [← h.1]; lia), ← h.1] at b
    obtain ⟨z, e⟩ := List.getElem?_eq_some_iff.mp a
    have zi : i - sp.length = 0 := by simpa using z
    rw [zi] at a b
    cases a; cases b; exact hv
theorem Spots.set {H : Hp} {sp : List V} {os : List (Option (Nat × Nat))} (h : Spots H sp os) {v : V} {o : Option (Nat × Nat)} (hv : SpotAt H v o) (k : Nat) : Spots H (sp.set k v) (os.set k o) := by
  refine ⟨by rw [List.length_set, List.length_set, h.1], fun i v' o' a b => ?_⟩
  rw [List.getElem?_set] at a b
  by_cases c : k = i
  · rw [if_pos c] at a b
    by_cases d : k < sp.length
    · rw [if_pos d] at a
      rw [if_pos (by rw [← h.1]; exact d)] at b
      cases a; cases b; exact hv
    · rw [if_neg d] at a; cases a
  · rw [if_neg c] at a b
    exact h.2 i v' o' a b
structure TelAt (C : Addr) (H : Hp) (A : Tad) (N : Nt) (S : Tst) : Prop where
  ob : ∃ dx, H A.t = some (.ins C dx (flds5 A.r A.ls A.lp A.lc A.ln))
  na : NetAt H A.r A.fr A.er A.ps N
  hs : H A.ls = some (.lst (nums S.sets))
  hp : ∃ sp, H A.lp = some (.lst sp) ∧ Spots H sp S.spots
  hc : H A.lc = some (.lst (nums S.came))
  hn : H A.ln = some (.lst (nums S.nms))
  d1 : A.ls ≠ A.lp
  d2 : A.ls ≠ A.lc
  d3 : A.ls ≠ A.ln
  d4 : A.lp ≠ A.lc
  d5 : A.lp ≠ A.ln
  d6 : A.lc ≠ A.ln
def But4 (A : Tad) (H H' : Hp) : Prop := ∀ b o, H b = some o → b ≠ A.ls → b ≠ A.lp → b ≠ A.lc → b ≠ A.ln → H' b = some o
theorem TelAt.keep {C : Addr} {H H' : Hp} {A : Tad} {N : Nt} {S : Tst} (T : TelAt C H A N S) (s : Same H H') : TelAt C H' A N S := by
  obtain ⟨dx, e⟩ := T.ob
  obtain ⟨sp, h1, h2⟩ := T.hp
  exact ⟨⟨dx, s _ _ e⟩, T.na.tups (Tups.of s), s _ _ T.hs, ⟨sp, s _ _ h1, h2.tups (Tups.of s)⟩, s _ _ T.hc, s _ _ T.hn, T.d1, T.d2, T.d3, T.d4, T.d5, T.d6⟩
structure OkS (N : Nt) (S : Tst) : Prop where
  sl : S.sets.length = N.forks.length
  sv : ∀ x ∈ S.sets, x < 2
  sp : ∀ l k, some (l, k) ∈ S.spots → l < N.lanes ∧ k ≤ N.forks.length
  cl : S.came.length = N.lanes
def wayL (os : List (Option (Nat × Nat))) : List Nat := (List.range os.length).filter fun i => (os.getD i none).isSome
def S0 (N : Nt) : Tst := ⟨List.replicate N.forks.length 0, [], List.replicate N.lanes 0, []⟩
def endN (N : Nt) (lane : Nat) : Nat := N.ends.idxOf lane
theorem end_lt {N : Nt} (ok : N.Ok) {lane : Nat} (h : lane < N.lanes) : endN N lane < N.lanes := by
  have el : N.ends.length = N.lanes := by rw [ok.en.length_eq, List.length_range]
  rw [← el]
  exact List.idxOf_lt_length_of_mem (ok.en.mem_iff.mpr (List.mem_range.mpr h))
def outT (N : Nt) (S : Tst) (ball lane : Nat) : Tst := ⟨S.sets, S.spots.set ball none, S.came.set (endN N lane) (S.came.getD (endN N lane) 0 + 1), S.nms ++ [endN N lane + N.lanes * S.came.getD (endN N lane) 0]⟩
def onT (N : Nt) (S : Tst) (ball k : Nat) : Nat := if S.sets.getD k 0 = 0 then (N.forks.getD k (0, 0)).1 else (N.forks.getD k (0, 0)).2
def goT (N : Nt) (S : Tst) (ball k k' : Nat) : Tst := ⟨S.sets.set k (1 - S.sets.getD k 0), S.spots.set ball (some (onT N S ball k, k')), S.came, S.nms⟩
theorem mem_set {α : Type} {l : List α} {i : Nat} {a x : α} (h : x ∈ l.set i a) : x ∈ l ∨ x = a := by
  obtain ⟨j, hj⟩ := List.mem_iff_getElem?.mp h
  rw [List.getElem?_set] at hj
  split at hj
  · split at hj
    · exact .inr (Option.some.inj hj).symm
    · cases hj
  · exact .inl (List.mem_of_getElem? hj)
theorem OkS.out {N : Nt} {S : Tst} (h : OkS N S) (ball lane : Nat) : OkS N (outT N S ball lane) := by
  refine ⟨h.sl, h.sv, fun l k m => ?_, ?_⟩
  · rcases mem_set m with m | m
    · exact h.sp l k m
    · cases m
  · show (S.came.set _ _).length = _
    rw [List.length_set]; exact h.cl
theorem OkS.go {N : Nt} {S : Tst} (ok : N.Ok) (h : OkS N S) {ball k k' : Nat} (hk : k < N.forks.length) (hk' : k' ≤ N.forks.length) : onT N S ball k < N.lanes ∧ OkS N (goT N S ball k k') := by
  have f := ok.fk _ (List.getElem_mem hk)
  have ef : N.forks.getD k (0, 0) = N.forks[k] := by rw [List.getD_eq_getElem?_getD, List.getElem?_eq_getElem hk]; rfl
  have on : onT N S ball k < N.lanes := by
    unfold onT
    rw [ef]
    split
    · exact f.1
    · exact f.2.1
  refine ⟨on, by show (S.sets.set _ _).length = _; rw [List.length_set]; exact h.sl, fun x m => ?_, fun l q m => ?_, h.cl⟩
  · rcases mem_set m with m | m
    · exact h.sv x m
    · lia
  · rcases mem_set m with m | m
    · exact h.sp l q m
    · cases m; exact ⟨on, hk'⟩
def KpT (t : Addr) (H0 H : Hp) : Prop := ∀ b o, H0 b = some o → b ≠ t → H b = some o
theorem KpT.step {t : Addr} {H0 H H' : Hp} (k : KpT t H0 H) (s : Same H H') (o : HO) : KpT t H0 (L2.upd H' t o) := fun b o' e ne => by rw [upd_ne ne]; exact s _ _ (k b o' e ne)
theorem KpT.free {t a : Addr} {H0 H : Hp} {o : HO} (k : KpT t H0 H) (ht : H t = some o) (h : H a = none) : H0 a = none ∧ a ≠ t := by
  have ne : a ≠ t := fun e => by rw [e, ht] at h; cases h
  refine ⟨?_, ne⟩
  cases e : H0 a with
  | none => rfl
  | some o' => rw [k a o' e ne] at h; cases h
end Bn
end
section
set_option maxHeartbeats 4000001
namespace K97
open PySem L2 Own Bn
abbrev sTInit : Stmt := inClass (top 11) 0
abbrev sTStart : Stmt := inClass (top 11) 1
abbrev sTStep : Stmt := inClass (top 11) 2
abbrev sTNumber : Stmt := inClass (top 11) 3
def spTInit (C : Addr) : Sp := fun vs H Q _ => ∃ (t dx r fr er : Addr) (ps : List V) (N : Nt), vs = [.ref t, .ref r] ∧ H t = some (.ins C dx []) ∧ Nt.Ok N ∧ NetAt H r fr er ps N ∧ ∀ (ls lp lc ln : Addr) (H' : Hp), H ls = none → H lp = none → H lc = none → H ln = none →
  TelAt C H' ⟨t, r, fr, er, ps, ls, lp, lc, ln⟩ N (S0 N) → (∀ b o, H b = some o → b ≠ t → H' b = some o) → Q .non H'
def spTStart (C : Addr) : Sp := fun vs H Q _ => ∃ (A : Tad) (N : Nt) (S : Tst) (lane : Nat), vs = [.ref A.t, .int lane] ∧ Nt.Ok N ∧ TelAt C H A N S ∧ OkS N S ∧ lane < N.lanes ∧ S.spots.length ≤ 1000 ∧
  ∀ (k : Nat) (H' : Hp), IsNext N.forks lane 0 k → TelAt C H' A N { S with spots := S.spots ++ [some (lane, k)] } → But4 A H H' → Q (.int (S.spots.length : Nat)) H'
def spTNumber (C : Addr) : Sp := fun vs H Q _ => ∃ (A : Tad) (N : Nt) (S : Tst) (e : Nat), vs = [.ref A.t, .int e] ∧ Nt.Ok N ∧ TelAt C H A N S ∧ OkS N S ∧ e < N.lanes ∧ S.nms.length ≤ 1000 ∧
  ∀ (H' : Hp), TelAt C H' A N { S with came := S.came.set e (S.came.getD e 0 + 1), nms := S.nms ++ [e + N.lanes * S.came.getD e 0] } → But4 A H H' → Q (.int (e + N.lanes * S.came.getD e 0 : Nat)) H'
def spTStep (C : Addr) : Sp := fun vs H Q _ => ∃ (A : Tad) (N : Nt) (S : Tst) (ball lane k : Nat), vs = [.ref A.t, .int ball] ∧ Nt.Ok N ∧ TelAt C H A N S ∧ OkS N S ∧ S.spots[ball]? = some (some (lane, k)) ∧ S.spots.length ≤ 1000 ∧ S.nms.length ≤ 1000 ∧
  (k = N.forks.length → ∀ H', TelAt C H' A N (outT N S ball lane) → But4 A H H' → Q (.int (endN N lane + N.lanes * S.came.getD (endN N lane) 0 : Nat)) H') ∧
  (k < N.forks.length → ∀ k' H', IsNext N.forks (onT N S ball k) (k + 1) k' → TelAt C H' A N (goT N S ball k k') → But4 A H H' → Q .non H')
structure Txt (K : PySem.W.Frag) (mg : Str → Option Value) (C : Addr) : Prop where
  cl : Cls K C
  nN : NoAttr K C "net"
  nS : NoAttr K C "settings"
  nP : NoAttr K C "spots"
  nC : NoAttr K C "came"
  nU : NoAttr K C "numbers"
  mgC : mg "Teller" = some (.ref C)
theorem any_int {K : PySem.W.Frag} {H : Hp} (i : Int) : AnyT K H (.int i) := ⟨_, .int i, _, rfl⟩
theorem below_ok {i b : Nat} (h : i < b) : belowV (b : Nat) (.int (i : Nat)) = true := by
  show (decide ((0 : Int) ≤ (i : Nat)) && decide (((i : Nat) : Int) < (b : Nat))) = true
  rw [decide_eq_true (by lia), decide_eq_true (by lia)]; rfl
theorem rep_nums (n : Nat) : (List.replicate n [V.int 0]).flatten = nums (List.replicate n 0) := by
  induction n with
  | zero => rfl
  | succ n ih => rw [List.replicate_succ, List.flatten_cons, ih, List.replicate_succ]; rfl
theorem nums_at' (row : List Nat) (i : Nat) (h : i < row.length) : (nums row)[i]? = some (.int ((row.getD i 0 : Nat) : Int)) := by
  unfold nums
  rw [List.getElem?_map, List.getElem?_eq_getElem h, List.getD_eq_getElem?_getD, List.getElem?_eq_getElem h]; rfl
theorem nums_set (row : List Nat) (i x : Nat) : (nums row).set i (.int (x : Nat)) = nums (row.set i x) := by
  unfold nums
  rw [List.map_set]
section
variable {P : Program} {w : World} {K : PySem.W.Frag} {mg : Str → Option Value} {base : Heap} {C : Addr}
theorem scTi : FnScope ["self", "net"] ["self", "net"] (defScope sTInit) := ⟨rfl, rfl, rfl, by decide +kernel, rfl, by decide +kernel, by decide +kernel⟩
theorem ok_tinit {f : Addr} {fd : FuncData} (F : Fun K "__init__" "Teller.__init__" sTInit f fd) (G : Mgs mg) (T : Txt K mg C) : FnOk P w K mg base CX0 1 f fd ["self", "net"] (spTInit C) := by
  refine F.ok scTi (fun vs H Q E h => ?_) (fun cdv A outer s H vs Q E hr h => ?_)
  · obtain ⟨t, dx, r, fr, er, ps, N, rfl, _⟩ := h
    rfl
  obtain ⟨t, dx, r, fr, er, ps, N, rfl, ht, ok, na, k⟩ := h
  refine ⟨_, (@pss_cons _ _ _ _ _ (@ps_fld _ _ _ _ _ _ _ _ (@pv _ 0 _ _ (by rfl) (by first | exact Or.inl rfl | exact Or.inr (Or.inl rfl) | exact Or.inr (Or.inr rfl)) (by decide) (by decide)) (@pv _ 1 _ _ (by rfl) (by first | exact Or.inl rfl | exact Or.inr (Or.inl rfl) | exact Or.inr (Or.inr rfl)) (by decide) (by decide)) rfl) (@pss_cons _ _ _ _ _ (@ps_fld _ _ _ _ _ _ _ _ (@pv _ 0 _ _ (by rfl) (by first | exact Or.inl rfl | exact Or.inr (Or.inl rfl) | exact Or.inr (Or.inr rfl)) (by decide) (by decide)) (@pe_op _ _ _ _ _ _ _ _ op_rep (@pe_lst _ _ _ _ (@pa_cons _ _ _ _ _ pe_int pa_nil (by rfl))) (@pe_callB _ _ _ _ _ _ _ _ _ call_len_seq (by rfl) G.len PySem.boot_len (@pa_cons _ _ _ _ _ (@pe_ix _ _ _ _ _ _ _ ix_tup (@pv _ 1 _ _ (by rfl) (by first | exact Or.inl rfl | exact Or.inr (Or.inl rfl) | exact Or.inr (Or.inr rfl)) (by decide) (by decide)) pe_int (fun _ _ => rfl)) pa_nil (by rfl)) (by decide) (by decide) (by rfl) (by rfl))) rfl) (@pss_cons _ _ _ _ _ (@ps_fld _ _ _ _ _ _ _ _ (@pv _ 0 _ _ (by rfl) (by first | exact Or.inl rfl | exact Or.inr (Or.inl rfl) | exact Or.inr (Or.inr rfl)) (by decide) (by decide)) (@pe_lst _ _ _ _ pa_nil) rfl) (@pss_cons _ _ _ _ _ (@ps_fld _ _ _ _ _ _ _ _ (@pv _ 0 _ _ (by rfl) (by first | exact Or.inl rfl | exact Or.inr (Or.inl rfl) | exact Or.inr (Or.inr rfl)) (by decide) (by decide)) (@pe_op _ _ _ _ _ _ _ _ op_rep (@pe_lst _ _ _ _ (@pa_cons _ _ _ _ _ pe_int pa_nil (by rfl))) (@pe_ix _ _ _ _ _ _ _ ix_tup (@pv _ 1 _ _ (by rfl) (by first | exact Or.inl rfl | exact Or.inr (Or.inl rfl) | exact Or.inr (Or.inr rfl)) (by decide) (by decide)) pe_int (fun _ _ => rfl))) rfl) (@pss_one _ _ _ (@ps_fld _ _ _ _ _ _ _ _ (@pv _ 0 _ _ (by rfl) (by first | exact Or.inl rfl | exact Or.inr (Or.inl rfl) | exact Or.inr (Or.inr rfl)) (by decide) (by decide)) (@pe_lst _ _ _ _ pa_nil) rfl)))))), ?_⟩
  have pl := na.prs.len
  have fm := ok.fm
  have l16 := ok.l16
  have rt : r ≠ t := fun e => by have := na.net; rw [e, ht] at this; cases this
  have ft : fr ≠ t := fun e => by have := na.forks; rw [e, ht] at this; cases this
  refine ⟨_, rfl, _, rfl, t, C, dx, [], rfl, ht, T.cl, T.nN, (by show 0 < 1000; decide), ?_⟩
  have k1 : KpT t H (L2.upd H t (.ins C dx (putF "net" (.ref r) []))) := fun b o e ne => by rw [upd_ne ne]; exact e
  have t1 : L2.upd H t (.ins C dx (putF "net" (.ref r) [])) t = some (.ins C dx (putF "net" (.ref r) [])) := upd_same
  generalize L2.upd H t (.ins C dx (putF "net" (.ref r) [])) = H1 at k1 t1
  refine ⟨(by show 1 ≤ sizeLine; decide), fun a1 ha1 => ?_⟩
  have s1 := same_new ha1 (.lst [.int 0])
  refine ⟨_, rfl, r, _, 1, _, rfl, rfl, SqT.of (s1 _ _ (k1 _ _ na.net rt)), rfl, fr, _, rfl, .inr (SqT.of (s1 _ _ (k1 _ _ na.forks ft))), a1, _, _, rfl, rfl, atNew ha1 _, by lia, by lia, (by rw [Int.toNat_natCast, sizeLine_eq]; show 1 * _ ≤ _; lia), fun ls hls => ?_⟩
  rw [Int.toNat_natCast, rep_nums]
  have s2 := same_new hls (.lst (nums (List.replicate ps.length 0)))
  have u2 := s1.trans s2
  have t2 := u2 _ _ t1
  obtain ⟨fls, nls⟩ := KpT.free (fun b o e ne => s1 _ _ (k1 b o e ne)) (s1 _ _ t1) hls
  refine ⟨_, rfl, t, C, dx, _, rfl, t2, T.cl, T.nS, (by show 1 < 1000; decide), ?_⟩
  have k3 := k1.step u2 (.ins C dx (putF "settings" (.ref ls) (putF "net" (.ref r) [])))
  have hs3 : L2.upd (L2.upd (L2.upd H1 a1 (.lst [.int 0])) ls (.lst (nums (List.replicate ps.length 0)))) t (.ins C dx (putF "settings" (.ref ls) (putF "net" (.ref r) []))) ls = some (.lst (nums (List.replicate ps.length 0))) := by rw [upd_ne nls]; exact atNew hls _
  have t3 := upd_same (H := L2.upd (L2.upd H1 a1 (.lst [.int 0])) ls (.lst (nums (List.replicate ps.length 0)))) (a := t) (o := .ins C dx (putF "settings" (.ref ls) (putF "net" (.ref r) [])))
  generalize L2.upd (L2.upd (L2.upd H1 a1 (.lst [.int 0])) ls (.lst (nums (List.replicate ps.length 0)))) t (.ins C dx (putF "settings" (.ref ls) (putF "net" (.ref r) []))) = H3 at k3 hs3 t3
  refine ⟨(by show 0 ≤ sizeLine; decide), fun lp hlp => ?_⟩
  have s4 := same_new hlp (.lst [])
  obtain ⟨flp, nlp⟩ := k3.free t3 hlp
  refine ⟨_, rfl, t, C, dx, _, rfl, s4 _ _ t3, T.cl, T.nP, (by show 2 < 1000; decide), ?_⟩
  have k5 := k3.step s4 (.ins C dx (putF "spots" (.ref lp) (putF "settings" (.ref ls) (putF "net" (.ref r) []))))
  have hs5 : L2.upd (L2.upd H3 lp (.lst [])) t (.ins C dx (putF "spots" (.ref lp) (putF "settings" (.ref ls) (putF "net" (.ref r) [])))) ls = some (.lst (nums (List.replicate ps.length 0))) := by rw [upd_ne nls]; exact s4 _ _ hs3
  have hp5 : L2.upd (L2.upd H3 lp (.lst [])) t (.ins C dx (putF "spots" (.ref lp) (putF "settings" (.ref ls) (putF "net" (.ref r) [])))) lp = some (.lst []) := by rw [upd_ne nlp]; exact atNew hlp _
  have t5 := upd_same (H := L2.upd H3 lp (.lst [])) (a := t) (o := .ins C dx (putF "spots" (.ref lp) (putF "settings" (.ref ls) (putF "net" (.ref r) []))))
  generalize L2.upd (L2.upd H3 lp (.lst [])) t (.ins C dx (putF "spots" (.ref lp) (putF "settings" (.ref ls) (putF "net" (.ref r) [])))) = H5 at k5 hs5 hp5 t5
  refine ⟨(by show 1 ≤ sizeLine; decide), fun a6 ha6 => ?_⟩
  have s6 := same_new ha6 (.lst [.int 0])
  refine ⟨_, rfl, r, _, 0, _, rfl, rfl, SqT.of (s6 _ _ (k5 _ _ na.net rt)), rfl, a6, _, _, rfl, rfl, atNew ha6 _, by lia, by lia, (by rw [Int.toNat_natCast, sizeLine_eq]; show 1 * _ ≤ _; lia), fun lc hlc => ?_⟩
  rw [Int.toNat_natCast, rep_nums]
  have s7 := same_new hlc (.lst (nums (List.replicate N.lanes 0)))
  have u7 := s6.trans s7
  obtain ⟨flc, nlc⟩ := KpT.free (fun b o e ne => s6 _ _ (k5 b o e ne)) (s6 _ _ t5) hlc
  refine ⟨_, rfl, t, C, dx, _, rfl, u7 _ _ t5, T.cl, T.nC, (by show 3 < 1000; decide), ?_⟩
  have d2 : ls ≠ lc := ne_of_none (s6 _ _ hs5) hlc
  have d4 : lp ≠ lc := ne_of_none (s6 _ _ hp5) hlc
  have k8 := k5.step u7 (.ins C dx (putF "came" (.ref lc) (putF "spots" (.ref lp) (putF "settings" (.ref ls) (putF "net" (.ref r) [])))))
  have hs8 : L2.upd (L2.upd (L2.upd H5 a6 (.lst [.int 0])) lc (.lst (nums (List.replicate N.lanes 0)))) t (.ins C dx (putF "came" (.ref lc) (putF "spots" (.ref lp) (putF "settings" (.ref ls) (putF "net" (.ref r) []))))) ls = some (.lst (nums (List.replicate ps.length 0))) := by rw [upd_ne nls]; exact u7 _ _ hs5
  have hp8 : L2.upd (L2.upd (L2.upd H5 a6 (.lst [.int 0])) lc (.lst (nums (List.replicate N.lanes 0)))) t (.ins C dx (putF "came" (.ref lc) (putF "spots" (.ref lp) (putF "settings" (.ref ls) (putF "net" (.ref r) []))))) lp = some (.lst []) := by rw [upd_ne nlp]; exact u7 _ _ hp5
  have hc8 : L2.upd (L2.upd (L2.upd H5 a6 (.lst [.int 0])) lc (.lst (nums (List.replicate N.lanes 0)))) t (.ins C dx (putF "came" (.ref lc) (putF "spots" (.ref lp) (putF "settings" (.ref ls) (putF "net" (.ref r) []))))) lc = some (.lst (nums (List.replicate N.lanes 0))) := by rw [upd_ne nlc]; exact atNew hlc _
  have t8 := upd_same (H := L2.upd (L2.upd H5 a6 (.lst [.int 0])) lc (.lst (nums (List.replicate N.lanes 0)))) (a := t) (o := .ins C dx (putF "came" (.ref lc) (putF "spots" (.ref lp) (putF "settings" (.ref ls) (putF "net" (.ref r) [])))))
  generalize L2.upd (L2.upd (L2.upd H5 a6 (.lst [.int 0])) lc (.lst (nums (List.replicate N.lanes 0)))) t (.ins C dx (putF "came" (.ref lc) (putF "spots" (.ref lp) (putF "settings" (.ref ls) (putF "net" (.ref r) []))))) = H8 at k8 hs8 hp8 hc8 t8
  refine ⟨(by show 0 ≤ sizeLine; decide), fun ln hln => ?_⟩
  have s9 := same_new hln (.lst [])
  obtain ⟨fln, nln⟩ := k8.free t8 hln
  refine ⟨_, rfl, t, C, dx, _, rfl, s9 _ _ t8, T.cl, T.nU, (by show 4 < 1000; decide), ?_⟩
  have d1 : ls ≠ lp := ne_of_none hs3 hlp
  refine k ls lp lc ln _ fls flp flc fln ⟨⟨dx, upd_same⟩, ?_, ?_, ⟨[], ?_, rfl, fun i v o a => by simp at a⟩, ?_, ?_, d1, d2, ne_of_none hs8 hln, d4, ne_of_none hp8 hln, ne_of_none hc8 hln⟩ (k8.step s9 _)
  · refine na.tups (fun a xs e => ?_)
    have ne : a ≠ t := fun z => by rw [z, ht] at e; cases e
    exact k8.step s9 _ _ _ e ne
  · show L2.upd (L2.upd H8 ln (.lst [])) t _ ls = some (.lst (nums (List.replicate N.forks.length 0)))
    rw [upd_ne nls, ← pl]; exact s9 _ _ hs8
  · rw [upd_ne nlp]; exact s9 _ _ hp8
  · rw [upd_ne nlc]; exact s9 _ _ hc8
  · rw [upd_ne nln]; exact atNew hln _
theorem scTs : FnScope ["self", "lane"] ["self", "lane"] (defScope sTStart) := ⟨rfl, rfl, rfl, by decide +kernel, rfl, by decide +kernel, by decide +kernel⟩
theorem ok_tstart {f fB fN : Addr} {fd dB dN : FuncData} (F : Fun K "start" "Teller.start" sTStart f fd) (G : Mgs mg) (T : Txt K mg C) (UB : Use P w K mg base "is_below" ["thing", "bound"] 2 (spBelow K) fB dB) (UN : Use P w K mg base "next_fork" ["net", "lane", "number"] 1 spNext fN dN) : FnOk P w K mg base CX0 3 f fd ["self", "lane"] (spTStart C) := by
  refine F.ok scTs (fun vs H Q E h => ?_) (fun cdv A outer s H vs Q E hr h => ?_)
  · obtain ⟨A', N, S, lane, rfl, _⟩ := h
    rfl
  obtain ⟨A', N, S, lane, rfl, ok, te, os, hl, hz, k⟩ := h
  have hr1 : Room 1 _ := hr.mono (by decide)
  refine ⟨_, (@pss_cons _ _ _ _ _ (@ps_if _ _ _ _ _ _ _ _ (@pt_not _ _ _ _ (@pt_val _ _ _ (@pe_call _ _ _ _ _ _ _ _ _ _ _ _ _ _ _ _ UB.ok hr (by rfl) UB.m UB.kp UB.b .nil pass0 (@pa_cons _ _ _ _ _ (@pv _ 1 _ _ (by rfl) (by first | exact Or.inl rfl | exact Or.inr (Or.inl rfl) | exact Or.inr (Or.inr rfl)) (by decide) (by decide)) (@pa_cons _ _ _ _ _ (@pe_ix _ _ _ _ _ _ _ ix_tup (@pe_fld _ _ _ _ _ (@pv _ 0 _ _ (by rfl) (by first | exact Or.inl rfl | exact Or.inr (Or.inl rfl) | exact Or.inr (Or.inr rfl)) (by decide) (by decide)) rfl) pe_int (fun _ _ => rfl)) pa_nil (by rfl)) (by rfl)) (by decide) (by rfl) (by rfl)) (by intro _; rfl))) (@pss_one _ _ _ ps_dead) pss_nil) (@pss_cons _ _ _ _ _ (@ps_expr _ _ _ _ (@pe_bm _ _ _ _ _ _ _ _ _ _ _ _ PySem.F.plainAttrs_list PySem.F.slot_list_append PySem.F.type_list_append mt_append (@pe_fld _ _ _ _ _ (@pv _ 0 _ _ (by rfl) (by first | exact Or.inl rfl | exact Or.inr (Or.inl rfl) | exact Or.inr (Or.inr rfl)) (by decide) (by decide)) rfl) (@pa_cons _ _ _ _ _ (@pe_tup _ _ _ _ _ (@pa_cons _ _ _ _ _ (@pv _ 1 _ _ (by rfl) (by first | exact Or.inl rfl | exact Or.inr (Or.inl rfl) | exact Or.inr (Or.inr rfl)) (by decide) (by decide)) (@pa_cons _ _ _ _ _ (@pe_call _ _ _ _ _ _ _ _ _ _ _ _ _ _ _ _ UN.ok hr1 (by rfl) UN.m UN.kp UN.b .nil pass0 (@pa_cons _ _ _ _ _ (@pe_fld _ _ _ _ _ (@pv _ 0 _ _ (by rfl) (by first | exact Or.inl rfl | exact Or.inr (Or.inl rfl) | exact Or.inr (Or.inr rfl)) (by decide) (by decide)) rfl) (@pa_cons _ _ _ _ _ (@pv _ 1 _ _ (by rfl) (by first | exact Or.inl rfl | exact Or.inr (Or.inl rfl) | exact Or.inr (Or.inr rfl)) (by decide) (by decide)) (@pa_cons _ _ _ _ _ pe_int pa_nil (by rfl)) (by rfl)) (by rfl)) (by decide) (by rfl) (by rfl)) pa_nil (by rfl)) (by rfl))) pa_nil (by rfl)) (by rfl) (by rfl) (by rfl) (by rfl) (by rfl)) (by rfl)) (@pss_one _ _ _ (@ps_ret _ _ _ _ (@pe_op _ _ _ _ _ _ _ _ op_sub (@pe_callB _ _ _ _ _ _ _ _ _ call_len_seq (by rfl) G.len PySem.boot_len (@pa_cons _ _ _ _ _ (@pe_fld _ _ _ _ _ (@pv _ 0 _ _ (by rfl) (by first | exact Or.inl rfl | exact Or.inr (Or.inl rfl) | exact Or.inr (Or.inr rfl)) (by decide) (by decide)) rfl) pa_nil (by rfl)) (by decide) (by decide) (by rfl) (by rfl)) pe_int))))), ?_⟩
  obtain ⟨dx, ob⟩ := te.ob
  obtain ⟨sp, hp, sr⟩ := te.hp
  refine ⟨_, rfl, _, rfl, A'.t, C, dx, _, _, rfl, ob, T.cl, T.nN, fl_net, A'.r, _, 0, _, rfl, rfl, SqT.of te.na.net, rfl, _, _, rfl, any_int _, _, rfl, ?_⟩
  rw [below_ok hl]
  refine iteF ?_
  refine ⟨_, rfl, A'.t, C, dx, _, _, rfl, ob, T.cl, T.nP, fl_spo, .inl ⟨rfl, _, SqL.of hp⟩, _, rfl, _, rfl, A'.t, C, dx, _, _, rfl, ob, T.cl, T.nN, fl_net, _, rfl, A'.r, A'.fr, A'.er, A'.ps, N, lane, 0, rfl, ok, te.na, Nat.zero_le _, fun m nm => ?_⟩
  refine ⟨(by show 2 ≤ sizeLine; decide), fun q hq => ?_⟩
  have s1 := same_new hq (.tup [.int (lane : Nat), .int (m : Nat)])
  have sl := sr.1
  refine ⟨A'.lp, sp, _, rfl, rfl, s1 _ _ hp, by rw [sizeLine_eq]; lia, ?_⟩
  have te1 := te.keep s1
  have tp : Tups (L2.upd H q (.tup [.int (lane : Nat), .int (m : Nat)])) (L2.upd (L2.upd H q (.tup [.int (lane : Nat), .int (m : Nat)])) A'.lp (.lst (sp ++ [.ref q]))) := Tups.lst (s1 _ _ hp)
  have tne : A'.t ≠ A'.lp := ne_of ob hp (by intro z; cases z)
  have te2 : TelAt C (L2.upd (L2.upd H q (.tup [.int (lane : Nat), .int (m : Nat)])) A'.lp (.lst (sp ++ [.ref q]))) A' N { S with spots := S.spots ++ [some (lane, m)] } := by
    obtain ⟨dx', ob'⟩ := te1.ob
    refine ⟨⟨dx', by rw [upd_ne tne]; exact ob'⟩, te1.na.tups tp, by rw [upd_ne te.d1]; exact te1.hs, ⟨_, upd_same, ?_⟩, by rw [upd_ne te.d4.symm]; exact te1.hc, by rw [upd_ne te.d5.symm]; exact te1.hn, te.d1, te.d2, te.d3, te.d4, te.d5, te.d6⟩
    exact ((sr.tups (Tups.of s1)).tups tp).add ⟨q, rfl, tp _ _ (atNew hq _)⟩
  have ob2 : L2.upd (L2.upd H q (.tup [.int (lane : Nat), .int (m : Nat)])) A'.lp (.lst (sp ++ [.ref q])) A'.t = some (.ins C dx (flds5 A'.r A'.ls A'.lp A'.lc A'.ln)) := by rw [upd_ne tne]; exact s1 _ _ ob
  refine ⟨_, rfl, A'.t, C, dx, _, _, rfl, ob2, T.cl, T.nP, fl_spo, A'.lp, _, rfl, .inl (SqL.of upd_same), _, _, rfl, rfl, ?_⟩
  have e : (((sp ++ [V.ref q]).length : Nat) : Int) - 1 = ((S.spots.length : Nat) : Int) := by rw [List.length_append, sl]; simp only [List.length_cons, List.length_nil]; lia
  have kk := k m _ nm te2 fun b o e1 _ n2 _ _ => by rw [upd_ne n2]; exact s1 _ _ e1
  show Q (.int _) _
  rw [e]; exact kk
theorem scTn : FnScope ["self", "end", "number"] ["self", "end"] (defScope sTNumber) := ⟨rfl, rfl, rfl, by decide +kernel, rfl, by decide +kernel, by decide +kernel⟩
theorem ok_tnumber {f : Addr} {fd : FuncData} (F : Fun K "number_at" "Teller.number_at" sTNumber f fd) (G : Mgs mg) (T : Txt K mg C) : FnOk P w K mg base CX0 1 f fd ["self", "end"] (spTNumber C) := by
  refine F.ok scTn (fun vs H Q E h => ?_) (fun cdv A outer s H vs Q E hr h => ?_)
  · obtain ⟨A', N, S, e, rfl, _⟩ := h
    rfl
  obtain ⟨A', N, S, e, rfl, ok, te, os, he, hz, k⟩ := h
  refine ⟨_, (@pss_cons _ _ _ _ _ (@ps_set _ _ 2 _ _ _ _ scTn.nd rfl (Or.inl rfl) (@pe_op _ _ _ _ _ _ _ _ op_add (@pv _ 1 _ _ (by rfl) (by first | exact Or.inl rfl | exact Or.inr (Or.inl rfl) | exact Or.inr (Or.inr rfl)) (by decide) (by decide)) (@pe_op _ _ _ _ _ _ _ _ op_mul (@pe_ix _ _ _ _ _ _ _ ix_tup (@pe_fld _ _ _ _ _ (@pv _ 0 _ _ (by rfl) (by first | exact Or.inl rfl | exact Or.inr (Or.inl rfl) | exact Or.inr (Or.inr rfl)) (by decide) (by decide)) rfl) pe_int (fun _ _ => rfl)) (@pe_ix _ _ _ _ _ _ _ ix_list (@pe_fld _ _ _ _ _ (@pv _ 0 _ _ (by rfl) (by first | exact Or.inl rfl | exact Or.inr (Or.inl rfl) | exact Or.inr (Or.inr rfl)) (by decide) (by decide)) rfl) (@pv _ 1 _ _ (by rfl) (by first | exact Or.inl rfl | exact Or.inr (Or.inl rfl) | exact Or.inr (Or.inr rfl)) (by decide) (by decide)) (fun _ _ => rfl)))) (by rfl) (by first | exact .inl rfl | exact .inr rfl | assumption)) (@pss_cons _ _ _ _ _ (@ps_augS _ _ _ _ _ _ _ _ _ _ _ _ _ (@pe_fld _ _ _ _ _ (@pv _ 0 _ _ (by rfl) (by first | exact Or.inl rfl | exact Or.inr (Or.inl rfl) | exact Or.inr (Or.inr rfl)) (by decide) (by decide)) rfl) (@pv _ 1 _ _ (by rfl) (by first | exact Or.inl rfl | exact Or.inr (Or.inl rfl) | exact Or.inr (Or.inr rfl)) (by decide) (by decide)) get_list pe_int ip_add set_list (by intros; rfl)) (@pss_cons _ _ _ _ _ (@ps_expr _ _ _ _ (@pe_bm _ _ _ _ _ _ _ _ _ _ _ _ PySem.F.plainAttrs_list PySem.F.slot_list_append PySem.F.type_list_append mt_append (@pe_fld _ _ _ _ _ (@pv _ 0 _ _ (by rfl) (by first | exact Or.inl rfl | exact Or.inr (Or.inl rfl) | exact Or.inr (Or.inr rfl)) (by decide) (by decide)) rfl) (@pa_cons _ _ _ _ _ (@pv _ 2 _ _ (by rfl) (by first | exact Or.inl rfl | exact Or.inr (Or.inl rfl) | exact Or.inr (Or.inr rfl)) (by decide) (by decide)) pa_nil (by rfl)) (by rfl) (by rfl) (by rfl) (by rfl) (by rfl)) (by rfl)) (@pss_one _ _ _ (@ps_ret _ _ _ _ (@pv _ 2 _ _ (by rfl) (by first | exact Or.inl rfl | exact Or.inr (Or.inl rfl) | exact Or.inr (Or.inr rfl)) (by decide) (by decide))))))), ?_⟩
  obtain ⟨dx, ob⟩ := te.ob
  obtain ⟨sp, hp, sr⟩ := te.hp
  have cl := os.cl
  have l16 := ok.l16
  have ec : e < S.came.length := by lia
  have at1 := nums_at' S.came e ec
  refine ⟨_, rfl, _, rfl, A'.t, C, dx, _, _, rfl, ob, T.cl, T.nN, fl_net, A'.r, _, 0, _, rfl, rfl, SqT.of te.na.net, rfl, _, rfl, A'.t, C, dx, _, _, rfl, ob, T.cl, T.nC, fl_cam, _, rfl, A'.lc, _, _, _, rfl, rfl, SqL.of te.hc, atI_nat at1, _, _, rfl, rfl, .inl ⟨by lia, by lia⟩, _, _, rfl, rfl, ?_⟩
  have ev : ((e : Nat) : Int) + ((N.lanes : Nat) : Int) * ((S.came.getD e 0 : Nat) : Int) = ((e + N.lanes * S.came.getD e 0 : Nat) : Int) := by rw [Int.natCast_add, Int.natCast_mul]
  simp only [ev]
  refine ⟨_, rfl, A'.t, C, dx, _, _, rfl, ob, T.cl, T.nC, fl_cam, _, rfl, A'.lc, _, e, _, rfl, rfl, SqL.of te.hc, at1, _, _, rfl, rfl, A'.lc, _, _, e, rfl, rfl, te.hc, ix_at (by rw [nums_len]; exact ec), ?_⟩
  have e1 : ((S.came.getD e 0 : Nat) : Int) + 1 = ((S.came.getD e 0 + 1 : Nat) : Int) := by lia
  dsimp only
  rw [e1, nums_set]
  have tne : A'.t ≠ A'.lc := ne_of ob te.hc (by intro z; cases z)
  have tne2 : A'.t ≠ A'.ln := ne_of ob te.hn (by intro z; cases z)
  have ob1 : L2.upd H A'.lc (.lst (nums (S.came.set e (S.came.getD e 0 + 1)))) A'.t = some (.ins C dx (flds5 A'.r A'.ls A'.lp A'.lc A'.ln)) := by rw [upd_ne tne]; exact ob
  have hn1 : L2.upd H A'.lc (.lst (nums (S.came.set e (S.came.getD e 0 + 1)))) A'.ln = some (.lst (nums S.nms)) := by rw [upd_ne te.d6.symm]; exact te.hn
  refine ⟨_, rfl, A'.t, C, dx, _, _, rfl, ob1, T.cl, T.nU, fl_num, .inl ⟨rfl, _, SqL.of hn1⟩, _, rfl, A'.ln, _, _, rfl, rfl, hn1, by rw [nums_len, sizeLine_eq]; lia, ?_⟩
  have tp1 : Tups H (L2.upd H A'.lc (.lst (nums (S.came.set e (S.came.getD e 0 + 1))))) := Tups.lst te.hc
  have tp2 := Tups.lst (ys := nums S.nms ++ [.int ((e + N.lanes * S.came.getD e 0 : Nat) : Int)]) hn1
  have en : nums S.nms ++ [V.int ((e + N.lanes * S.came.getD e 0 : Nat) : Int)] = nums (S.nms ++ [e + N.lanes * S.came.getD e 0]) := by unfold nums; rw [List.map_append]; rfl
  refine ⟨_, rfl, ?_⟩
  refine k _ ⟨⟨dx, by rw [upd_ne tne2]; exact ob1⟩, (te.na.tups tp1).tups tp2, ?_, ⟨sp, ?_, (sr.tups tp1).tups tp2⟩, ?_, ?_, te.d1, te.d2, te.d3, te.d4, te.d5, te.d6⟩ fun b o e1 _ _ n3 n4 => ?_
  · rw [upd_ne te.d3, upd_ne te.d2]; exact te.hs
  · rw [upd_ne te.d5, upd_ne te.d4]; exact hp
  · rw [upd_ne te.d6, upd_same]
  · rw [upd_same, en]
  · rw [upd_ne n4, upd_ne n3]; exact e1
end
end K97
end
section
set_option maxHeartbeats 4000001
namespace K97
open PySem L2 Own Bn
theorem two_at (f : Nat × Nat) (t : Nat) (h : t < 2) : ([V.int (f.1 : Nat), V.int (f.2 : Nat)] : List V)[t]? = some (.int ((if t = 0 then f.1 else f.2 : Nat) : Int)) := by
  match t, h with
  | 0, _ => rfl
  | 1, _ => rfl
section
variable {P : Program} {w : World} {K : PySem.W.Frag} {mg : Str → Option Value} {base : Heap} {C : Addr}
theorem scTp : FnScope ["self", "ball", "lane", "number", "turn", "onward"] ["self", "ball"] (defScope sTStep) := ⟨rfl, rfl, rfl, by decide +kernel, rfl, by decide +kernel, by decide +kernel⟩
theorem ok_tstep {f fB fN fE fM : Addr} {fd dB dN dE dM : FuncData} (F : Fun K "step" "Teller.step" sTStep f fd) (G : Mgs mg) (T : Txt K mg C) (UB : Use P w K mg base "is_below" ["thing", "bound"] 2 (spBelow K) fB dB) (UN : Use P w K mg base "next_fork" ["net", "lane", "number"] 1 spNext fN dN) (UE : Use P w K mg base "end_of" ["net", "lane"] 1 spEnd fE dE)
    (UM : UseM P w K mg base C "number_at" ["self", "end"] 1 (spTNumber C) fM dM) : FnOk P w K mg base CX0 3 f fd ["self", "ball"] (spTStep C) := by
  refine F.ok scTp (fun vs H Q E h => ?_) (fun cdv A outer s H vs Q E hr h => ?_)
  · obtain ⟨A', N, S, ball, lane, k, rfl, _⟩ := h
    rfl
  obtain ⟨A', N, S, ball, lane, k, rfl, ok, te, os, hb, hz, hn, kout, kgo⟩ := h
  have hr1 : Room 1 _ := hr.mono (by decide)
  refine ⟨_, (@pss_cons _ _ _ _ _ (@ps_if _ _ _ _ _ _ _ _ (@pw_or _ _ _ _ _ _ _ (@pt_not _ _ _ _ (@pt_val _ _ _ (@pe_call _ _ _ _ _ _ _ _ _ _ _ _ _ _ _ _ UB.ok hr (by rfl) UB.m UB.kp UB.b .nil pass0 (@pa_cons _ _ _ _ _ (@pv _ 1 _ _ (by rfl) (by first | exact Or.inl rfl | exact Or.inr (Or.inl rfl) | exact Or.inr (Or.inr rfl)) (by decide) (by decide)) (@pa_cons _ _ _ _ _ (@pe_callB _ _ _ _ _ _ _ _ _ call_len_seq (by rfl) G.len PySem.boot_len (@pa_cons _ _ _ _ _ (@pe_fld _ _ _ _ _ (@pv _ 0 _ _ (by rfl) (by first | exact Or.inl rfl | exact Or.inr (Or.inl rfl) | exact Or.inr (Or.inr rfl)) (by decide) (by decide)) rfl) pa_nil (by rfl)) (by decide) (by decide) (by rfl) (by rfl)) pa_nil (by rfl)) (by rfl)) (by decide) (by rfl) (by rfl)) (by intro _; rfl))) (@pw_or1 _ _ _ _ (@pt_cmpR _ _ _ _ _ _ _ _ op_isN (@pe_ix _ _ _ _ _ _ _ ix_list (@pe_fld _ _ _ _ _ (@pv _ 0 _ _ (by rfl) (by first | exact Or.inl rfl | exact Or.inr (Or.inl rfl) | exact Or.inr (Or.inr rfl)) (by decide) (by decide)) rfl) (@pv _ 1 _ _ (by rfl) (by first | exact Or.inl rfl | exact Or.inr (Or.inl rfl) | exact Or.inr (Or.inr rfl)) (by decide) (by decide)) (fun _ _ => rfl)) pe_non (by rfl)))).pt (@pss_one _ _ _ ps_dead) pss_nil) (@pss_cons _ _ _ _ _ (@ps_asg _ _ _ _ _ _ (@pe_ix _ _ _ _ _ _ _ ix_list (@pe_fld _ _ _ _ _ (@pv _ 0 _ _ (by rfl) (by first | exact Or.inl rfl | exact Or.inr (Or.inl rfl) | exact Or.inr (Or.inr rfl)) (by decide) (by decide)) rfl) (@pv _ 1 _ _ (by rfl) (by first | exact Or.inl rfl | exact Or.inr (Or.inl rfl) | exact Or.inr (Or.inr rfl)) (by decide) (by decide)) (fun _ _ => rfl)) (@pg_tup _ _ _ _ _ _ rfl (@pgs_cons _ _ _ _ _ (@pg_name _ _ 2 _ scTp.nd rfl (Or.inl rfl) (by first | exact .inl rfl | exact .inr rfl | assumption)) (@pgs_cons _ _ _ _ _ (@pg_name _ _ 3 _ scTp.nd rfl (Or.inl rfl) (by first | exact .inl rfl | exact .inr rfl | assumption)) pgs_nil (by rfl)) (by rfl)) (by rfl) (by rfl)) (by rfl) (by rfl) (by rfl)) (@pss_cons _ _ _ _ _ (@ps_if _ _ _ _ _ _ _ _ (@pt_cmpR _ _ _ _ _ _ _ _ op_eq (@pv _ 3 _ _ (by rfl) (by first | exact Or.inl rfl | exact Or.inr (Or.inl rfl) | exact Or.inr (Or.inr rfl)) (by decide) (by decide)) (@pe_callB _ _ _ _ _ _ _ _ _ call_len_seq (by rfl) G.len PySem.boot_len (@pa_cons _ _ _ _ _ (@pe_ix _ _ _ _ _ _ _ ix_tup (@pe_fld _ _ _ _ _ (@pv _ 0 _ _ (by rfl) (by first | exact Or.inl rfl | exact Or.inr (Or.inl rfl) | exact Or.inr (Or.inr rfl)) (by decide) (by decide)) rfl) pe_int (fun _ _ => rfl)) pa_nil (by rfl)) (by decide) (by decide) (by rfl) (by rfl)) (nomark _)) (@pss_cons _ _ _ _ _ (@ps_asg _ _ _ _ _ _ pe_non (@pg_sub _ _ _ _ _ _ _ (@pe_fld _ _ _ _ _ (@pv _ 0 _ _ (by rfl) (by first | exact Or.inl rfl | exact Or.inr (Or.inl rfl) | exact Or.inr (Or.inr rfl)) (by decide) (by decide)) rfl) (@pv _ 1 _ _ (by rfl) (by first | exact Or.inl rfl | exact Or.inr (Or.inl rfl) | exact Or.inr (Or.inr rfl)) (by decide) (by decide)) set_list (by intro _; rfl)) (by rfl) (by rfl) (by rfl)) (@pss_one _ _ _ (@ps_ret _ _ _ _ (@pe_meth _ _ _ _ _ _ _ _ _ _ _ _ _ _ _ _ _ _ _ _ (@pv _ 0 _ _ (by rfl) (by first | exact Or.inl rfl | exact Or.inr (Or.inl rfl) | exact Or.inr (Or.inr rfl)) (by decide) (by decide)) T.cl UM.mt UM.ok hr1 UM.b .nil pass0 (@pa_cons _ _ _ _ _ (@pe_call _ _ _ _ _ _ _ _ _ _ _ _ _ _ _ _ UE.ok hr1 (by rfl) UE.m UE.kp UE.b .nil pass0 (@pa_cons _ _ _ _ _ (@pe_fld _ _ _ _ _ (@pv _ 0 _ _ (by rfl) (by first | exact Or.inl rfl | exact Or.inr (Or.inl rfl) | exact Or.inr (Or.inr rfl)) (by decide) (by decide)) rfl) (@pa_cons _ _ _ _ _ (@pv _ 2 _ _ (by rfl) (by first | exact Or.inl rfl | exact Or.inr (Or.inl rfl) | exact Or.inr (Or.inr rfl)) (by decide) (by decide)) pa_nil (by rfl)) (by rfl)) (by decide) (by rfl) (by rfl)) pa_nil (by rfl)) (by rfl) (by rfl) (by rfl))))) pss_nil) (@pss_cons _ _ _ _ _ (@ps_set _ _ 4 _ _ _ _ scTp.nd rfl (Or.inl rfl) (@pe_ix _ _ _ _ _ _ _ ix_list (@pe_fld _ _ _ _ _ (@pv _ 0 _ _ (by rfl) (by first | exact Or.inl rfl | exact Or.inr (Or.inl rfl) | exact Or.inr (Or.inr rfl)) (by decide) (by decide)) rfl) (@pv _ 3 _ _ (by rfl) (by first | exact Or.inl rfl | exact Or.inr (Or.inl rfl) | exact Or.inr (Or.inr rfl)) (by decide) (by decide)) (fun _ _ => rfl)) (by rfl) (by first | exact .inl rfl | exact .inr rfl | assumption)) (@pss_cons _ _ _ _ _ (@ps_asg _ _ _ _ _ _ (@pe_op _ _ _ _ _ _ _ _ op_sub pe_int (@pv _ 4 _ _ (by rfl) (by first | exact Or.inl rfl | exact Or.inr (Or.inl rfl) | exact Or.inr (Or.inr rfl)) (by decide) (by decide))) (@pg_sub _ _ _ _ _ _ _ (@pe_fld _ _ _ _ _ (@pv _ 0 _ _ (by rfl) (by first | exact Or.inl rfl | exact Or.inr (Or.inl rfl) | exact Or.inr (Or.inr rfl)) (by decide) (by decide)) rfl) (@pv _ 3 _ _ (by rfl) (by first | exact Or.inl rfl | exact Or.inr (Or.inl rfl) | exact Or.inr (Or.inr rfl)) (by decide) (by decide)) set_list (by intro _; rfl)) (by rfl) (by rfl) (by rfl)) (@pss_cons _ _ _ _ _ (@ps_set _ _ 5 _ _ _ _ scTp.nd rfl (Or.inl rfl) (@pe_ix _ _ _ _ _ _ _ ix_tup (@pe_ix _ _ _ _ _ _ _ ix_tup (@pe_ix _ _ _ _ _ _ _ ix_tup (@pe_fld _ _ _ _ _ (@pv _ 0 _ _ (by rfl) (by first | exact Or.inl rfl | exact Or.inr (Or.inl rfl) | exact Or.inr (Or.inr rfl)) (by decide) (by decide)) rfl) pe_int (fun _ _ => rfl)) (@pv _ 3 _ _ (by rfl) (by first | exact Or.inl rfl | exact Or.inr (Or.inl rfl) | exact Or.inr (Or.inr rfl)) (by decide) (by decide)) (fun _ _ => rfl)) (@pv _ 4 _ _ (by rfl) (by first | exact Or.inl rfl | exact Or.inr (Or.inl rfl) | exact Or.inr (Or.inr rfl)) (by decide) (by decide)) (fun _ _ => rfl)) (by rfl) (by first | exact .inl rfl | exact .inr rfl | assumption)) (@pss_cons _ _ _ _ _ (@ps_asg _ _ _ _ _ _ (@pe_tup _ _ _ _ _ (@pa_cons _ _ _ _ _ (@pv _ 5 _ _ (by rfl) (by first | exact Or.inl rfl | exact Or.inr (Or.inl rfl) | exact Or.inr (Or.inr rfl)) (by decide) (by decide)) (@pa_cons _ _ _ _ _ (@pe_call _ _ _ _ _ _ _ _ _ _ _ _ _ _ _ _ UN.ok hr1 (by rfl) UN.m UN.kp UN.b .nil pass0 (@pa_cons _ _ _ _ _ (@pe_fld _ _ _ _ _ (@pv _ 0 _ _ (by rfl) (by first | exact Or.inl rfl | exact Or.inr (Or.inl rfl) | exact Or.inr (Or.inr rfl)) (by decide) (by decide)) rfl) (@pa_cons _ _ _ _ _ (@pv _ 5 _ _ (by rfl) (by first | exact Or.inl rfl | exact Or.inr (Or.inl rfl) | exact Or.inr (Or.inr rfl)) (by decide) (by decide)) (@pa_cons _ _ _ _ _ (@pe_op _ _ _ _ _ _ _ _ op_add (@pv _ 3 _ _ (by rfl) (by first | exact Or.inl rfl | exact Or.inr (Or.inl rfl) | exact Or.inr (Or.inr rfl)) (by decide) (by decide)) pe_int) pa_nil (by rfl)) (by rfl)) (by rfl)) (by decide) (by rfl) (by rfl)) pa_nil (by rfl)) (by rfl))) (@pg_sub _ _ _ _ _ _ _ (@pe_fld _ _ _ _ _ (@pv _ 0 _ _ (by rfl) (by first | exact Or.inl rfl | exact Or.inr (Or.inl rfl) | exact Or.inr (Or.inr rfl)) (by decide) (by decide)) rfl) (@pv _ 1 _ _ (by rfl) (by first | exact Or.inl rfl | exact Or.inr (Or.inl rfl) | exact Or.inr (Or.inr rfl)) (by decide) (by decide)) set_list (by intro _; rfl)) (by rfl) (by rfl) (by rfl)) (@pss_one _ _ _ (@ps_ret _ _ _ _ pe_non))))))))), ?_⟩
  obtain ⟨dx, ob⟩ := te.ob
  obtain ⟨sp, hp, sr⟩ := te.hp
  have sl := sr.1
  have bl := (List.getElem?_eq_some_iff.mp hb).1
  have bs : ball < sp.length := by lia
  obtain ⟨hl, hk⟩ := os.sp lane k (List.mem_of_getElem? hb)
  have hx : sp[ball]? = some sp[ball] := List.getElem?_eq_getElem bs
  obtain ⟨q, eq, hq⟩ := sr.2 ball _ _ hx hb
  rw [eq] at hx
  have pl := te.na.prs.len
  refine ⟨_, rfl, _, rfl, A'.t, C, dx, _, _, rfl, ob, T.cl, T.nP, fl_spo, A'.lp, _, rfl, .inl (SqL.of hp), _, _, rfl, any_int _, _, rfl, ?_⟩
  rw [below_ok bs]
  refine iteF ⟨_, rfl, A'.t, C, dx, _, _, rfl, ob, T.cl, T.nP, fl_spo, _, rfl, A'.lp, _, _, _, rfl, rfl, SqL.of hp, atI_nat hx, rfl, _, rfl, ?_⟩
  rw [decide_eq_false (by intro z; cases z)]
  refine iteF ⟨_, rfl, A'.t, C, dx, _, _, rfl, ob, T.cl, T.nP, fl_spo, _, rfl, A'.lp, _, _, _, rfl, rfl, SqL.of hp, atI_nat hx, q, _, rfl, SqT.of hq, rfl, _, _, rfl, _, _, rfl, rfl, ?_⟩
  refine ⟨_, rfl, _, rfl, A'.t, C, dx, _, _, rfl, ob, T.cl, T.nN, fl_net, A'.r, _, 1, _, rfl, rfl, SqT.of te.na.net, rfl, A'.fr, _, rfl, .inr (SqT.of te.na.forks), rfl, _, rfl, ?_⟩
  have tnp : A'.t ≠ A'.lp := ne_of ob hp (by intro z; cases z)
  by_cases ke : k = N.forks.length
  · rw [decide_eq_true (show V.int ((k : Nat) : Int) = V.int ((A'.ps.length : Nat) : Int) by rw [pl, ke])]
    refine iteT ⟨_, rfl, A'.t, C, dx, _, _, rfl, ob, T.cl, T.nP, fl_spo, _, rfl, A'.lp, _, _, ball, rfl, rfl, hp, ix_at bs, ?_⟩
    have tp : Tups H (L2.upd H A'.lp (.lst (sp.set ball .non))) := Tups.lst hp
    have te1 : TelAt C (L2.upd H A'.lp (.lst (sp.set ball .non))) A' N { S with spots := S.spots.set ball none } :=
      ⟨⟨dx, by rw [upd_ne tnp]; exact ob⟩, te.na.tups tp, by rw [upd_ne te.d1]; exact te.hs, ⟨_, upd_same, (sr.tups tp).set (o := none) rfl ball⟩, by rw [upd_ne te.d4.symm]; exact te.hc, by rw [upd_ne te.d5.symm]; exact te.hn, te.d1, te.d2, te.d3, te.d4, te.d5, te.d6⟩
    have os1 : OkS N { S with spots := S.spots.set ball none } := by
      refine ⟨os.sl, os.sv, fun l k' m => ?_, os.cl⟩
      rcases mem_set m with m | m
      · exact os.sp l k' m
      · cases m
    have ob1 : L2.upd H A'.lp (.lst (sp.set ball .non)) A'.t = some (.ins C dx (flds5 A'.r A'.ls A'.lp A'.lc A'.ln)) := by rw [upd_ne tnp]; exact ob
    refine ⟨_, rfl, A'.t, dx, _, rfl, ob1, fl_no (by decide +kernel) (by decide +kernel) (by decide +kernel) (by decide +kernel) (by decide +kernel), _, rfl, A'.t, C, dx, _, _, rfl, ob1, T.cl, T.nN, fl_net, _, rfl, A'.r, A'.fr, A'.er, A'.ps, N, lane, rfl, ok, te1.na, hl, ?_⟩
    refine ⟨A', N, _, endN N lane, rfl, ok, te1, os1, end_lt ok hl, hn, fun H2 te2 b2 => ?_⟩
    exact kout ke H2 te2 fun b o e n1 n2 n3 n4 => b2 b o (by rw [upd_ne n2]; exact e) n1 n2 n3 n4
  · have kl : k < N.forks.length := by lia
    rw [decide_eq_false (show ¬ V.int ((k : Nat) : Int) = V.int ((A'.ps.length : Nat) : Int) by intro z; injection z with z; rw [pl] at z; lia)]
    refine iteF ?_
    have ks : k < S.sets.length := by rw [os.sl]; exact kl
    have at1 := nums_at' S.sets k ks
    have t2 : S.sets.getD k 0 < 2 := by
      rw [List.getD_eq_getElem?_getD, List.getElem?_eq_getElem ks]
      exact os.sv _ (List.getElem_mem ks)
    refine ⟨_, rfl, A'.t, C, dx, _, _, rfl, ob, T.cl, T.nS, fl_set, _, rfl, A'.ls, _, _, _, rfl, rfl, SqL.of te.hs, atI_nat at1, ?_⟩
    refine ⟨_, rfl, _, _, rfl, rfl, _, rfl, A'.t, C, dx, _, _, rfl, ob, T.cl, T.nS, fl_set, _, rfl, A'.ls, _, _, k, rfl, rfl, te.hs, ix_at (by rw [nums_len]; exact ks), ?_⟩
    have e1 : (1 : Int) - ((S.sets.getD k 0 : Nat) : Int) = ((1 - S.sets.getD k 0 : Nat) : Int) := by lia
    dsimp only
    rw [e1, nums_set]
    have tns : A'.t ≠ A'.ls := ne_of ob te.hs (by intro z; cases z)
    have tp1 : Tups H (L2.upd H A'.ls (.lst (nums (S.sets.set k (1 - S.sets.getD k 0))))) := Tups.lst te.hs
    have na1 := te.na.tups tp1
    have ob1 : L2.upd H A'.ls (.lst (nums (S.sets.set k (1 - S.sets.getD k 0)))) A'.t = some (.ins C dx (flds5 A'.r A'.ls A'.lp A'.lc A'.ln)) := by rw [upd_ne tns]; exact ob
    have hp1 : L2.upd H A'.ls (.lst (nums (S.sets.set k (1 - S.sets.getD k 0)))) A'.lp = some (.lst sp) := by rw [upd_ne te.d1.symm]; exact hp
    obtain ⟨g, f, eg, ef, hg⟩ := na1.prs.get (i := k) (List.getElem?_eq_getElem (show k < A'.ps.length by lia))
    have hat : A'.ps[k]? = some (.ref g) := by rw [List.getElem?_eq_getElem (show k < A'.ps.length by lia), eg]
    have eon : onT N S ball k = if S.sets.getD k 0 = 0 then f.1 else f.2 := by
      unfold onT
      rw [List.getD_eq_getElem?_getD (l := N.forks), ef]; rfl
    have at2 := two_at f _ t2
    rw [← eon] at at2
    have on : onT N S ball k < N.lanes := (OkS.go (ball := ball) (k' := 0) ok os kl (Nat.zero_le _)).1
    refine ⟨_, rfl, A'.t, C, dx, _, _, rfl, ob1, T.cl, T.nN, fl_net, A'.r, _, 1, _, rfl, rfl, SqT.of na1.net, rfl, _, rfl, A'.fr, _, _, _, rfl, rfl, SqT.of na1.forks, atI_nat hat, _, rfl, g, _, _, _, rfl, rfl, SqT.of hg, atI_nat at2, ?_⟩
    refine ⟨_, rfl, _, rfl, A'.t, C, dx, _, _, rfl, ob1, T.cl, T.nN, fl_net, _, rfl, _, rfl, _, _, rfl, rfl, A'.r, A'.fr, A'.er, A'.ps, N, onT N S ball k, k + 1, rfl, ok, na1, kl, fun k' nk => ?_⟩
    refine ⟨(by show 2 ≤ sizeLine; decide), fun q2 hq2 => ?_⟩
    have s2 := same_new hq2 (.tup [.int (onT N S ball k : Nat), .int (k' : Nat)])
    refine ⟨_, rfl, A'.t, C, dx, _, _, rfl, s2 _ _ ob1, T.cl, T.nP, fl_spo, _, rfl, A'.lp, _, _, ball, rfl, rfl, s2 _ _ hp1, ix_at bs, ?_⟩
    have tp3 := Tups.lst (ys := sp.set ball (.ref q2)) (s2 _ _ hp1)
    refine kgo kl k' _ nk ⟨⟨dx, by rw [upd_ne tnp]; exact s2 _ _ ob1⟩, (na1.tups (Tups.of s2)).tups tp3, ?_, ⟨_, upd_same, ?_⟩, ?_, ?_, te.d1, te.d2, te.d3, te.d4, te.d5, te.d6⟩ fun b o e n1 n2 n3 n4 => ?_
    · rw [upd_ne te.d1]; exact s2 _ _ upd_same
    · exact (((sr.tups tp1).tups (Tups.of s2)).tups tp3).set (v := .ref q2) (o := some (onT N S ball k, k')) ⟨q2, rfl, tp3 _ _ (atNew hq2 _)⟩ ball
    · rw [upd_ne te.d4.symm]; refine s2 _ _ ?_; rw [upd_ne te.d2.symm]; exact te.hc
    · rw [upd_ne te.d5.symm]; refine s2 _ _ ?_; rw [upd_ne te.d3.symm]; exact te.hn
    · rw [upd_ne n2]; refine s2 _ _ ?_; rw [upd_ne n1]; exact e
end
end K97
end
section
set_option maxHeartbeats 4000001
namespace L2
open PySem
end L2
namespace Bn
open PySem L2 Own
theorem cnt_less {p p' : Nat → Bool} {b : Nat} (hp : p b = true) (hp' : p' b = false) (h : ∀ i, i ≠ b → p' i = p i) : ∀ n, ((List.range n).filter p).length = ((List.range n).filter p').length + (if b < n then 1 else 0)
  | 0 => by simp
  | n + 1 => by
    rw [List.range_succ, List.filter_append, List.filter_append, List.length_append, List.length_append, cnt_less hp hp' h n]
    by_cases e : n = b
    · subst e
      rw [List.filter_cons, List.filter_cons, hp, hp']
      simp
    · rw [List.filter_cons, List.filter_cons, h n e]
      have : (if b < n + 1 then 1 else 0) = (if b < n then 1 else 0) := by
        by_cases c : b < n
        · rw [if_pos c, if_pos (by lia)]
        · rw [if_neg c, if_neg (by lia)]
      rw [this, List.filter_nil, List.filter_nil]; lia
theorem get_set (os : List (Option (Nat × Nat))) (b : Nat) (o : Option (Nat × Nat)) (i : Nat) : (os.set b o).getD i none = if b = i ∧ b < os.length then o else os.getD i none := by
  rw [List.getD_eq_getElem?_getD, List.getD_eq_getElem?_getD, List.getElem?_set]
  by_cases e : b = i
  · subst e
    by_cases c : b < os.length
    · rw [if_pos rfl, if_pos c, if_pos ⟨rfl, c⟩]; rfl
    · rw [if_pos rfl, if_neg c, if_neg (fun z => c z.2), List.getElem?_eq_none (by lia)]
  · rw [if_neg e, if_neg (fun z => e z.1)]
theorem way_out {os : List (Option (Nat × Nat))} {b : Nat} {o : Nat × Nat} (h : os[b]? = some (some o)) : (wayL os).length = (wayL (os.set b none)).length + 1 := by
  have bl := (List.getElem?_eq_some_iff.mp h).1
  have gb : os.getD b none = some o := by rw [List.getD_eq_getElem?_getD, h]; rfl
  unfold wayL
  rw [List.length_set, cnt_less (p := fun i => (os.getD i none).isSome) (p' := fun i => ((os.set b none).getD i none).isSome) (b := b) (by show (os.getD b none).isSome = true; rw [gb]; rfl) (by show ((os.set b none).getD b none).isSome = false; rw [get_set, if_pos ⟨rfl, bl⟩]; rfl) (fun i hi => by show ((os.set b none).getD i none).isSome = (os.getD i none).isSome; rw [get_set, if_neg (fun z => hi z.1.symm)]), if_pos bl]
theorem way_go {os : List (Option (Nat × Nat))} {b : Nat} {o o' : Nat × Nat} (h : os[b]? = some (some o)) : wayL (os.set b (some o')) = wayL os := by
  have gb : os.getD b none = some o := by rw [List.getD_eq_getElem?_getD, h]; rfl
  unfold wayL
  rw [List.length_set]
  refine List.filter_congr fun i _ => ?_
  rw [get_set]
  by_cases c : b = i ∧ b < os.length
  · rw [if_pos c, ← c.1, gb]; rfl
  · rw [if_neg c]
structure Fine (N : Nt) (S : Tst) : Prop where
  num : ∀ e, e < N.lanes → (S.nms.filter fun n => decide (n % N.lanes = e)) = (List.range (S.came.getD e 0)).map fun j => e + N.lanes * j
  cnt : S.nms.length + (wayL S.spots).length = S.spots.length
  all : ∀ n ∈ S.nms, n % N.lanes < N.lanes
theorem fine0 {N : Nt} (h : 1 ≤ N.lanes) : Fine N (S0 N) := by
  refine ⟨fun e he => ?_, rfl, fun n hn => by simp [S0] at hn⟩
  show _ = (List.range ((List.replicate N.lanes 0).getD e 0)).map _
  rw [List.getD_eq_getElem?_getD, List.getElem?_replicate, if_pos he]; rfl
theorem Fine.out {N : Nt} {S : Tst} (ok : N.Ok) (os : OkS N S) (f : Fine N S) {ball lane k : Nat} (hb : S.spots[ball]? = some (some (lane, k))) (hl : lane < N.lanes) :
    Fine N (outT N S ball lane) ∧ (endN N lane + N.lanes * S.came.getD (endN N lane) 0) ∉ S.nms := by
  have el := end_lt ok hl
  generalize ee : endN N lane = e at el
  have l1 := ok.l1
  have em : (e + N.lanes * S.came.getD e 0) % N.lanes = e := by rw [Nat.add_mul_mod_self_left, Nat.mod_eq_of_lt el]
  refine ⟨⟨fun e' he' => ?_, ?_, fun n hn => Nat.mod_lt _ (by lia)⟩, fun h => ?_⟩
  · show ((S.nms ++ [endN N lane + N.lanes * S.came.getD (endN N lane) 0]).filter _) = (List.range ((S.came.set (endN N lane) (S.came.getD (endN N lane) 0 + 1)).getD e' 0)).map _
    rw [ee, List.filter_append, List.filter_cons, em, f.num e' he', List.getD_eq_getElem?_getD (l := S.came.set _ _), List.getElem?_set]
    by_cases c : e = e'
    · subst c
      have ec : e < S.came.length := by rw [os.cl]; exact el
      rw [if_pos rfl, if_pos ec, if_pos (decide_eq_true rfl)]
      show _ = (List.range (S.came.getD e 0 + 1)).map _
      rw [List.range_succ, List.map_append]; rfl
    · have cd : ¬ decide (e = e') = true := by simpa using c
      rw [if_neg c, if_neg cd, ← List.getD_eq_getElem?_getD, List.filter_nil, List.append_nil]
  · show (S.nms ++ [_]).length + (wayL (S.spots.set ball none)).length = (S.spots.set ball none).length
    have := way_out hb
    rw [List.length_set, List.length_append, ← f.cnt]
    simp only [List.length_nil, List.length_cons]; lia
  · have m : (e + N.lanes * S.came.getD e 0) ∈ S.nms.filter fun n => decide (n % N.lanes = e) := List.mem_filter.mpr ⟨h, by rw [em, decide_eq_true rfl]⟩
    rw [f.num e el] at m
    obtain ⟨j, hj, ej⟩ := List.mem_map.mp m
    have hj := List.mem_range.mp hj
    have : N.lanes * j = N.lanes * S.came.getD e 0 := by lia
    have := Nat.eq_of_mul_eq_mul_left (by lia) this
    lia
theorem Fine.go {N : Nt} {S : Tst} (f : Fine N S) {ball lane k k' : Nat} (hb : S.spots[ball]? = some (some (lane, k))) : Fine N (goT N S ball k k') := by
  refine ⟨f.num, ?_, f.all⟩
  show S.nms.length + (wayL (S.spots.set ball (some _))).length = (S.spots.set ball (some _)).length
  rw [way_go hb, List.length_set]; exact f.cnt
end Bn
end
section
set_option maxHeartbeats 4000001
namespace Bn
open PySem L2 Own
def dl (lane l : Nat) : Int := if l = lane then 1 else 0
def isAt (p : Nat × Nat → Bool) : Option (Nat × Nat) → Bool
  | some o => p o
  | none => false
def cnt (os : List (Option (Nat × Nat))) (p : Nat × Nat → Bool) : Int := (os.countP (isAt p) : Nat)
end Bn
end
section
set_option maxHeartbeats 4000001
namespace Bn
open PySem L2 Own
end Bn
end
section
set_option maxHeartbeats 4000001
namespace Bn
open PySem L2 Own
def goes (n : Nat) : Option (Nat × Nat) → Nat
  | none => 0
  | some o => n + 1 - o.2
def pot (n : Nat) (os : List (Option (Nat × Nat))) : Nat := (os.map (goes n)).sum
theorem pot_set (n : Nat) : ∀ (os : List (Option (Nat × Nat))) (i : Nat) (old x : Option (Nat × Nat)), os[i]? = some old → pot n (os.set i x) + goes n old = pot n os + goes n x
  | [], i, old, x, h => by simp at h
  | a :: os, 0, old, x, h => by
    obtain rfl := Option.some.inj h
    unfold pot
    rw [List.set_cons_zero, List.map_cons, List.map_cons, List.sum_cons, List.sum_cons]; lia
  | a :: os, i + 1, old, x, h => by
    have ih := pot_set n os i old x (by simpa using h)
    unfold pot at ih ⊢
    rw [List.set_cons_succ, List.map_cons, List.map_cons, List.sum_cons, List.sum_cons]; lia
theorem TelAt.tupk {C : Addr} {H H' : Hp} {B : Tad} {N : Nt} {S : Tst} (T : TelAt C H B N S) (b : But4 B H H') : Tups H H' := fun a xs e => by
  obtain ⟨sp, hp, _⟩ := T.hp
  exact b _ _ e (ne_of e T.hs (by intro z; cases z)) (ne_of e hp (by intro z; cases z)) (ne_of e T.hc (by intro z; cases z)) (ne_of e T.hn (by intro z; cases z))
end Bn
namespace L2
open PySem PySem.Spec PyProof.Rows Own Bn
end L2
end
section
set_option maxHeartbeats 4000001
namespace Bn
open PySem L2 Own
def part (m : Int) (lane k : Nat) : List Grp := if m = 0 then [] else [⟨m, lane, k⟩]
theorem next_ex (fs : List (Nat × Nat)) (lane : Nat) : ∀ n, n ≤ fs.length → ∃ k, IsNext fs lane n k := by
  have go : ∀ d n, n + d = fs.length → ∃ k, IsNext fs lane n k := by
    intro d
    induction d with
    | zero =>
      intro n h
      refine ⟨n, Nat.le_refl _, by lia, fun j g a b => by lia, fun g e => ?_⟩
      rw [List.getElem?_eq_none (by lia)] at e; cases e
    | succ d ih =>
      intro n h
      have nl : n < fs.length := by lia
      by_cases z : lane = fs[n].1 ∨ lane = fs[n].2
      · refine ⟨n, Nat.le_refl _, by lia, fun j g a b => by lia, fun g e => ?_⟩
        rw [List.getElem?_eq_getElem nl] at e
        rw [← Option.some.inj e]; exact z
      · obtain ⟨k, hk⟩ := ih (n + 1) (by lia)
        refine ⟨k, by have := hk.from_; lia, hk.upto, fun j g a b e => ?_, hk.here⟩
        by_cases y : j = n
        · subst y
          rw [List.getElem?_eq_getElem nl] at e
          rw [← Option.some.inj e]; exact z
        · exact hk.none j g (by lia) b e
  exact fun n h => go (fs.length - n) n (by lia)
end Bn
end
section
set_option maxHeartbeats 4000001
namespace L2
open PySem PySem.Spec PyProof.Rows
section
variable {κ : Type} [DecidableEq κ]
def valV (kvs : List (κ × V)) (k : κ) : Option V := (kvs.find? fun kv => decide (kv.1 = k)).map (·.2)
def putK (kvs : List (κ × V)) (k : κ) (v : V) : List (κ × V) :=
  if (kvs.any fun kv => decide (kv.1 = k)) = true then kvs.map (fun kv => if kv.1 = k then (kv.1, v) else kv) else kvs ++ [(k, v)]
def dropK (kvs : List (κ × V)) (k : κ) : List (κ × V) := kvs.filter fun kv => decide (kv.1 ≠ k)

theorem valV_pos {p : κ × V} {r : List (κ × V)} {k : κ} (e : p.1 = k) : valV (p :: r) k = some p.2 := by simp [valV, List.find?_cons, e]
theorem valV_neg {p : κ × V} {r : List (κ × V)} {k : κ} (e : ¬ p.1 = k) : valV (p :: r) k = valV r k := by simp [valV, List.find?_cons, e]
theorem valV_any (k : κ) : ∀ kvs : List (κ × V), (kvs.any fun kv => decide (kv.1 = k)) = (valV kvs k).isSome
  | [] => rfl
  | p :: r => by
    rw [List.any_cons]
    by_cases e : p.1 = k
    · simp only [valV_pos e, decide_eq_true e, Bool.true_or, Option.isSome_some]
    · rw [valV_neg e, decide_eq_false e, Bool.false_or]; exact valV_any k r
theorem valV_map (k j : κ) (y : V) : ∀ kvs : List (κ × V), valV (kvs.map fun kv => if kv.1 = k then (kv.1, y) else kv) j = (valV kvs j).map fun x => if j = k then y else x
  | [] => rfl
  | p :: r => by
    have ih := valV_map k j y r
    rw [List.map_cons]
    by_cases h : p.1 = k
    · rw [if_pos h]
      by_cases e : p.1 = j
      · rw [valV_pos (p := (p.1, y)) e, valV_pos e, Option.map_some, if_pos (e.symm.trans h)]
      · rw [valV_neg (p := (p.1, y)) e, valV_neg e, ih]
    · rw [if_neg h]
      by_cases e : p.1 = j
      · rw [valV_pos (p := p) e, valV_pos e, Option.map_some, if_neg (fun z => h (e.trans z))]
      · rw [valV_neg (p := p) e, valV_neg e, ih]
theorem valV_snoc (k j : κ) (y : V) : ∀ kvs : List (κ × V), valV kvs k = none → valV (kvs ++ [(k, y)]) j = if j = k then some y else valV kvs j
  | [], _ => by
    by_cases e : k = j
    · rw [if_pos e.symm]; exact valV_pos (p := (k, y)) e
    · rw [if_neg (fun z => e z.symm)]; exact valV_neg (p := (k, y)) e
  | p :: r, hn => by
    rw [List.cons_append]
    have hk : ¬ p.1 = k := fun z => by rw [valV_pos z] at hn; cases hn
    rw [valV_neg hk] at hn
    have ih := valV_snoc k j y r hn
    by_cases e : p.1 = j
    · rw [valV_pos e, valV_pos e, if_neg (fun z => hk (e.trans z))]
    · rw [valV_neg e, valV_neg e, ih]
theorem valV_put (kvs : List (κ × V)) (k j : κ) (y : V) : valV (putK kvs k y) j = if j = k then some y else valV kvs j := by
  unfold putK
  by_cases a : (kvs.any fun kv => decide (kv.1 = k)) = true
  · rw [if_pos a, valV_map]
    rw [valV_any] at a
    by_cases e : j = k
    · obtain ⟨x, hx⟩ := Option.isSome_iff_exists.mp a
      rw [if_pos e, e, hx, Option.map_some, if_pos rfl]
    · rw [if_neg e]
      cases valV kvs j with
      | none => rfl
      | some x => rw [Option.map_some, if_neg e]
  · rw [if_neg a]
    refine valV_snoc k j y kvs ?_
    rw [valV_any] at a
    cases q : valV kvs k with
    | none => rfl
    | some x => rw [q] at a; exact (a rfl).elim
theorem length_putK (kvs : List (κ × V)) (k : κ) (v : V) : (putK kvs k v).length ≤ kvs.length + 1 := by
  unfold putK
  split
  · rw [List.length_map]; lia
  · rw [List.length_append, List.length_cons, List.length_nil]; lia
theorem RelO.isSome_eq {o : Option V} {u : Option Value} (r : RelO o u) : o.isSome = u.isSome := by
  cases o with
  | none => cases u with
    | none => rfl
    | some _ => exact (show False from r).elim
  | some _ => cases u with
    | none => exact (show False from r).elim
    | some _ => rfl
theorem KV.val {kvs : List (κ × V)} {vs : List (κ × Value)} (r : KV kvs vs) (k : κ) : RelO (valV kvs k) (valueAt vs k) := by
  unfold KV at r
  induction r with
  | nil => exact True.intro
  | @cons p q ps qs h t ih =>
    obtain ⟨h1, h2⟩ := h
    by_cases e : p.1 = k
    · have e' : q.1 = k := h1.symm.trans e
      have b : valueAt (q :: qs) k = some q.2 := by simp [valueAt, List.find?_cons, e']
      rw [valV_pos e, b]; exact h2
    · have e' : ¬ q.1 = k := fun z => e (h1.trans z)
      have b : valueAt (q :: qs) k = valueAt qs k := by simp [valueAt, List.find?_cons, e']
      rw [valV_neg e, b]; exact ih
theorem KV.any {kvs : List (κ × V)} {vs : List (κ × Value)} (r : KV kvs vs) (k : κ) : (kvs.any fun kv => decide (kv.1 = k)) = vs.any fun kv => decide (kv.1 = k) := by
  unfold KV at r
  induction r with
  | nil => rfl
  | cons h t ih => rw [List.any_cons, List.any_cons, ih, h.1]
theorem KV.repl {kvs : List (κ × V)} {vs : List (κ × Value)} (r : KV kvs vs) (k : κ) {y : V} {u : Value} (ry : RelV y u) :
    KV (kvs.map fun kv => if kv.1 = k then (kv.1, y) else kv) (vs.map fun kv => if kv.1 = k then (kv.1, u) else kv) := by
  unfold KV at r ⊢
  induction r with
  | nil => exact .nil
  | @cons p q ps qs h t ih =>
    rw [List.map_cons, List.map_cons]
    refine .cons ?_ ih
    obtain ⟨h1, h2⟩ := h
    by_cases e : p.1 = k
    · rw [if_pos e, if_pos (h1.symm.trans e)]; exact ⟨h1, ry⟩
    · rw [if_neg e, if_neg (fun z => e (h1.trans z))]; exact ⟨h1, h2⟩
theorem KV.put {kvs : List (κ × V)} {vs : List (κ × Value)} (r : KV kvs vs) (k : κ) {y : V} {u : Value} (ry : RelV y u) : KV (putK kvs k y) (stored vs k u) := by
  unfold putK stored
  rw [r.any k]
  by_cases e : (vs.any fun kv => decide (kv.1 = k)) = true
  · rw [if_pos e, if_pos e]; exact r.repl k ry
  · rw [if_neg e, if_neg e]; exact Paired.snoc r ⟨rfl, ry⟩
theorem KV.drop {kvs : List (κ × V)} {vs : List (κ × Value)} (r : KV kvs vs) (k : κ) : KV (dropK kvs k) (without vs k) := by
  unfold KV at r ⊢
  unfold dropK without
  induction r with
  | nil => exact .nil
  | @cons p q ps qs h t ih =>
    obtain ⟨h1, h2⟩ := h
    rw [List.filter_cons, List.filter_cons]
    by_cases e : p.1 = k
    · have a : ¬ decide (p.1 ≠ k) = true := by simp [e]
      have b : ¬ decide (q.1 ≠ k) = true := by simp [h1.symm.trans e]
      rw [if_neg a, if_neg b]; exact ih
    · have e' : ¬ q.1 = k := fun z => e (h1.trans z)
      have a : decide (p.1 ≠ k) = true := by simp [e]
      have b : decide (q.1 ≠ k) = true := by simp [e']
      rw [if_pos a, if_pos b]; exact .cons ⟨h1, h2⟩ ih
theorem KV.length {kvs : List (κ × V)} {vs : List (κ × Value)} (r : KV kvs vs) : kvs.length = vs.length := Paired.length r
theorem dropK_le (kvs : List (κ × V)) (k : κ) : (dropK kvs k).length ≤ kvs.length := List.length_filter_le _ _
end
theorem kV_is {P : Program} {w : World} {k : Key} {u : Value} (r : RelV (kV k) u) : (mixKind P w).is k u = true := by
  cases k with
  | inl i => obtain ⟨t, e⟩ := (show ∃ t, u = Value.int i t from r); subst e; exact mixKind_int P w i t
  | inr x => obtain ⟨t, e⟩ := (show ∃ t, u = Value.str x t from r); subst e; exact mixKind_str P w x t
theorem items_are {P : Program} {w : World} : ∀ {ks : List Key} {us : List Value}, Vals (ks.map kV) us → ItemsAre (mixKind P w) ks us
  | [], _, r => by rw [List.map_nil] at r; cases r; exact .nil
  | k :: ks, _, r => by
    rw [List.map_cons] at r
    cases r with
    | cons h t => exact .cons (kV_is h) (items_are t)
abbrev KT (H : Hp) : List (List Key × V) → List (List Key × Addr × Value) → Prop := Paired fun p q => p.1 = q.1 ∧ H q.2.1 = some (.tup (p.1.map kV)) ∧ RelV p.2 q.2.2
theorem KT.val {H : Hp} {kvs : List (List Key × V)} {xs : List (List Key × Addr × Value)} (r : KT H kvs xs) (k : List Key) : RelO (valV kvs k) ((atKey xs k).map (·.2)) := by
  induction r with
  | nil => exact True.intro
  | @cons p q ps qs h t ih =>
    obtain ⟨h1, _, h2⟩ := h
    by_cases e : p.1 = k
    · have e' : q.1 = k := h1.symm.trans e
      have b : atKey (q :: qs) k = some q.2 := by simp [atKey, List.find?_cons, e']
      rw [valV_pos e, b]; exact h2
    · have e' : ¬ q.1 = k := fun z => e (h1.trans z)
      have b : atKey (q :: qs) k = atKey qs k := by simp [atKey, List.find?_cons, e']
      rw [valV_neg e, b]; exact ih
theorem KT.repl {H : Hp} {kvs : List (List Key × V)} {xs : List (List Key × Addr × Value)} (r : KT H kvs xs) (k : List Key) {y : V} {u : Value} (ry : RelV y u) :
    KT H (kvs.map fun kv => if kv.1 = k then (kv.1, y) else kv) (xs.map (putAt k u)) := by
  induction r with
  | nil => exact .nil
  | @cons p q ps qs h t ih =>
    rw [List.map_cons, List.map_cons]
    refine .cons ?_ ih
    obtain ⟨h1, h2, h3⟩ := h
    unfold putAt
    by_cases e : p.1 = k
    · rw [if_pos e, if_pos (h1.symm.trans e)]; exact ⟨h1, h2, ry⟩
    · rw [if_neg e, if_neg (fun z => e (h1.trans z))]; exact ⟨h1, h2, h3⟩
theorem KT.put {H : Hp} {kvs : List (List Key × V)} {xs : List (List Key × Addr × Value)} (r : KT H kvs xs) (k : List Key) {b : Addr} {y : V} {u : Value} (hb : H b = some (.tup (k.map kV))) (ry : RelV y u) :
    KT H (putK kvs k y) (storedH xs k b u) := by
  have e : (kvs.any fun kv => decide (kv.1 = k)) = (atKey xs k).isSome := by
    rw [valV_any, (r.val k).isSome_eq, Option.isSome_map]
  unfold putK storedH
  rw [e]
  by_cases q : (atKey xs k).isSome = true
  · rw [if_pos q, if_pos q]; exact r.repl k ry
  · rw [if_neg q, if_neg q]; exact Paired.snoc r ⟨rfl, hb, ry⟩
theorem KT.keeps {H H' : Hp} {kvs : List (List Key × V)} {xs : List (List Key × Addr × Value)} (r : KT H kvs xs) (ht : ∀ b ys, H b = some (.tup ys) → H' b = some (.tup ys)) : KT H' kvs xs :=
  Paired.mapP r fun _ _ z => ⟨z.1, ht _ _ z.2.1, z.2.2⟩

section
variable {P : Program} {w : World} {H : Hp} {h : Heap} {a : Addr}
theorem rd_of {u : HO} (ok : HOk P w H h) (e : Rd H a u) : ObjOk P w H h a u := e.ok ok
theorem dk_rd {kvs : List (Key × V)} (ok : HOk P w H h) (e : Rd H a (.dK kvs)) : kvs.length ≤ sizeLine ∧ (a == sysModules) = false ∧ ∃ vs, KV kvs vs ∧ h.DictOf (mixKind P w) a vs :=
  show ObjOk P w H h a (.dK kvs) from rd_of ok e
theorem dk_of {kvs : List (Key × V)} (ok : HOk P w H h) (e : H a = some (.dK kvs)) : kvs.length ≤ sizeLine ∧ (a == sysModules) = false ∧ ∃ vs, KV kvs vs ∧ h.DictOf (mixKind P w) a vs := dk_rd ok (.inl e)
theorem key_of {ks : List Key} (ok : HOk P w H h) (e : H a = some (.tup (ks.map kV))) : (tupleKind (mixKind P w)).is h ks a := by
  obtain ⟨_, its, r, o, h1, h2, n, h3⟩ := (show ObjOk P w H h a (.tup (ks.map kV)) from ok a _ e)
  exact ⟨o, its.toArray, n, h1, h2, h3.1, by simpa using items_are r⟩
theorem dt_rd {kvs : List (List Key × V)} (ok : HOk P w H h) (e : Rd H a (.dT kvs)) : kvs.length ≤ sizeLine ∧ (a == sysModules) = false ∧
    ∃ xs, KT H kvs xs ∧ h.DictOfH (tupleKind (mixKind P w)) a xs := by
  obtain ⟨z, y, xs, r, o, es, ep, h1, h2, h3, h4, h5⟩ := (show ObjOk P w H h a (.dT kvs) from rd_of ok e)
  refine ⟨z, y, xs, r, o, es, ep, h1, h2, h3, h4, fun x hx => ?_, h5⟩
  have all : ∀ {l : List (List Key × V)} {m : List (List Key × Addr × Value)}, KT H l m → ∀ x ∈ m, (tupleKind (mixKind P w)).is h x.1 x.2.1 := by
    intro l m q
    induction q with
    | nil => intro x hx; exact nomatch hx
    | @cons p q ps qs hq t ih =>
      intro x hx
      rcases List.mem_cons.mp hx with e | hx
      · subst e
        exact key_of ok (by rw [← hq.1]; exact hq.2.1)
      · exact ih x hx
  exact all r x hx
theorem dt_of {kvs : List (List Key × V)} (ok : HOk P w H h) (e : H a = some (.dT kvs)) : kvs.length ≤ sizeLine ∧ (a == sysModules) = false ∧
    ∃ xs, KT H kvs xs ∧ h.DictOfH (tupleKind (mixKind P w)) a xs := dt_rd ok (.inl e)
end
def DGet (H : Hp) (a : Addr) (y : V) (r : Option V) : Prop :=
  (∃ kvs k, Rd H a (.dK kvs) ∧ y = kV k ∧ r = valV kvs k) ∨ ∃ kvs k b, Rd H a (.dT kvs) ∧ y = .ref b ∧ H b = some (.tup (k.map kV)) ∧ r = valV kvs k
def DPut (H : Hp) (a : Addr) (y v : V) (H' : Hp) : Prop :=
  (∃ kvs k, H a = some (.dK kvs) ∧ y = kV k ∧ kvs.length < sizeLine ∧ H' = upd H a (.dK (putK kvs k v))) ∨
  ∃ kvs k b, H a = some (.dT kvs) ∧ y = .ref b ∧ H b = some (.tup (k.map kV)) ∧ kvs.length < sizeLine ∧ H' = upd H a (.dT (putK kvs k v))
theorem DGet.k {H : Hp} {a : Addr} {kvs : List (Key × V)} {k : Key} (e : H a = some (.dK kvs)) : DGet H a (kV k) (valV kvs k) := .inl ⟨kvs, k, .inl e, rfl, rfl⟩
theorem DPut.k {H : Hp} {a : Addr} {kvs : List (Key × V)} {k : Key} {v : V} (e : H a = some (.dK kvs)) (hl : kvs.length < sizeLine) : DPut H a (kV k) v (upd H a (.dK (putK kvs k v))) := .inl ⟨kvs, k, e, rfl, hl, rfl⟩
section
variable {X : Cx} {pins : List (Addr × Obj)} {σ : St} {H : Hp} {s : Shared} {a : Addr} {y v : V} {u r : Value} {o : Option V} {A : Around} {E : Value → Shared → Prop}
theorem d_getItem {Q : Value → Shared → Prop} (hu : A.units + 1 < cLine) (I : Inv X pins σ H s) (g : DGet H a y (some v)) (ry : RelV y u) (h : ∀ w' s', Inv X pins σ H s' → RelV v w' → Q w' s') :
    wpAny (model X.prog X.w) A (getItem (.ref a) u) Q E s := by
  rcases g with ⟨kvs, k, e, ey, l⟩ | ⟨kvs, k, b, e, ey, eb, l⟩
  · subst ey
    obtain ⟨z, hd, vs, rel, dd⟩ := dk_rd I.hok e
    obtain ⟨w', hw, rw'⟩ := RelO.some_of (v := v) (o := valueAt vs k) (by rw [l]; exact rel.val k)
    exact wpAny_getItem_of (kV_is ry) dd.mapOf hw (h w' _ (I.tok _) rw')
  · subst ey
    cases (show u = Value.ref b from ry)
    obtain ⟨z, hd, xs, rel, dd⟩ := dt_rd I.hok e
    obtain ⟨w', hw, rw'⟩ := RelO.some_of (v := v) (o := (atKey xs k).map (·.2)) (by rw [l]; exact rel.val k)
    obtain ⟨p, hp, hp2⟩ := Option.map_eq_some_iff.mp hw
    refine wpAny_getItem_heap (tupleKind_room_in1 hu) (key_of I.hok eb) dd hp ?_
    rw [hp2]
    exact h w' _ (I.tok _) rw'
theorem d_write {h' : Heap} {t' : Nat} {ob : HO} (I : Inv X pins σ H s) (mu : Mut (H a)) (hs : Heap.SameBut a s.heap h') (he : ∃ q, h'.get? a = some q) (new : ObjOk X.prog X.w (upd H a ob) h' a ob) :
    Inv X pins σ (upd H a ob) { s with heap := h', toks := t' } :=
  I.write (x := a) (e := a) mu (.inl rfl) (fun b q hb z => (hs.2 b hb).trans z) he new
theorem dk_new {P : Program} {w : World} {H' : Hp} {h' : Heap} {kvs : List (Key × V)} {vs : List (Key × Value)} (z : kvs.length ≤ sizeLine) (hd : (a == sysModules) = false) (rel : KV kvs vs) (dd : h'.DictOf (mixKind P w) a vs) :
    ObjOk P w H' h' a (.dK kvs) := ⟨z, hd, vs, rel, dd⟩
theorem d_setItem {H' : Hp} {Q : Unit → Shared → Prop} (hu : A.units + 1 < cLine) (I : Inv X pins σ H s) (g : DPut H a y v H') (ry : RelV y u) (rv : RelV v r) (h : ∀ s', Inv X pins σ H' s' → Q () s') :
    wpAny (model X.prog X.w) A (setItem (.ref a) u r) Q E s := by
  rcases g with ⟨kvs, k, e, ey, l, eH⟩ | ⟨kvs, k, b, e, ey, eb, l, eH⟩
  · subst ey eH
    obtain ⟨z, hd, vs, rel, dd⟩ := dk_of I.hok e
    have hz : vs.length ≤ sizeLine := by rw [← rel.length]; exact z
    have hl : (putK kvs k v).length ≤ sizeLine := by have := length_putK kvs k v; lia
    refine wpAny_setItem_pairs (hsz := hz) (kV_is ry) dd fun h' dd' hs => h _ ?_
    have he : ∃ q, h'.get? a = some q := let ⟨q, _, _, hq, _⟩ := dd'; ⟨q, hq⟩
    exact d_write I (by rw [e]; exact True.intro) hs he (dk_new hl hd (rel.put k rv) dd')
  · subst ey eH
    cases (show u = Value.ref b from ry)
    obtain ⟨z, hd, xs, rel, dd⟩ := dt_of I.hok e
    have hz : xs.length ≤ sizeLine := by rw [← Paired.length rel]; exact z
    have hl : (putK kvs k v).length ≤ sizeLine := by have := length_putK kvs k v; lia
    refine wpAny_setItem_heap (hsz := hz) (tupleKind_room_in1 hu) (key_of I.hok eb) dd fun h' dd' hs => h _ ?_
    obtain ⟨q, es, ep, hq, h2, h3, h4, _, h5⟩ := dd'
    refine d_write I (by rw [e]; exact True.intro) hs ⟨q, hq⟩ ⟨hl, hd, _, (rel.put k eb rv).keeps fun c ys ec => ?_, q, es, ep, hq, h2, h3, h4, h5⟩
    rw [upd_ne (ne_of ec e (fun z => nomatch z))]
    exact ec
end

section
variable {X : Cx} {pins : List (Addr × Obj)} {σ : St} {H : Hp} {s : Shared} {a : Addr} {kvs : List (Key × V)} {k : Key} {u : Value} {A : Around} {E : Value → Shared → Prop}
theorem d_delItem {Q : Unit → Shared → Prop} (I : Inv X pins σ H s) (e : H a = some (.dK kvs)) (ry : RelV (kV k) u) (l : (valV kvs k).isSome = true) (h : ∀ s', Inv X pins σ (upd H a (.dK (dropK kvs k))) s' → Q () s') :
    wpAny (model X.prog X.w) A (delItem (.ref a) u) Q E s := by
  obtain ⟨z, hd, vs, rel, dd⟩ := dk_of I.hok e
  refine wpAny_delItem_slot dd.typeIs (by decide) PySem.F.slot_dict_delitem
    (call_meetsIn PySem.F.slot_dict_delitem dd.typeIs PySem.F.entry_dict_delitem (PySem.F.args_dict_delitem_2 _ _) (meets_dict_delitem_pairs (mixKind X.prog X.w) a (kV_is ry)) ⟨vs, dd, by rw [← rel.length]; exact z, by rw [← (rel.val k).isSome_eq]; exact l, fun h' dd' hs => h _ ?_⟩)
  have he : ∃ q, h'.get? a = some q := let ⟨q, _, _, hq, _⟩ := dd'; ⟨q, hq⟩
  exact d_write I (by rw [e]; exact True.intro) hs he (dk_new (Nat.le_trans (dropK_le kvs k) z) hd (rel.drop k) dd')
theorem d_pop {v : V} {more : List Value} {Q : Value → Shared → Prop} (I : Inv X pins σ H s) (e : H a = some (.dK kvs)) (ry : RelV (kV k) u) (l : valV kvs k = some v) (hm : more = [] ∨ ∃ x, more = [x])
    (h : ∀ w' s', Inv X pins σ (upd H a (.dK (dropK kvs k))) s' → RelV v w' → Q w' s') : wpAny (model X.prog X.w) A (call (.builtin "dict.pop") (.ref a :: u :: more)) Q E s := by
  obtain ⟨z, hd, vs, rel, dd⟩ := dk_of I.hok e
  obtain ⟨w', hw, rw'⟩ := RelO.some_of (v := v) (o := valueAt vs k) (by rw [← l]; exact rel.val k)
  have hp : (keyPart u).isSome = true := by
    cases k with
    | inl i => obtain ⟨t, q⟩ := (show ∃ t, u = Value.int i t from ry); subst q; rfl
    | inr x => obtain ⟨t, q⟩ := (show ∃ t, u = Value.str x t from ry); subst q; rfl
  have ha : argsOk "dict.pop" ⟨.ref a :: u :: more, []⟩ := by
    rcases hm with q | ⟨x, q⟩
    · subst q; exact PySem.F.args_dict_pop_2 _ _
    · subst q; exact PySem.F.args_dict_pop_3 _ _ _
  refine call_meetsIn PySem.F.slot_dict_pop dd.typeIs PySem.F.entry_dict_pop ha (meets_dict_pop_there (mixKind X.prog X.w) a (kV_is ry) more hm hp)
    ⟨vs, w', dd, by rw [← rel.length]; exact z, hw, fun h' dd' hs => h w' _ ?_ rw'⟩
  have he : ∃ q, h'.get? a = some q := let ⟨q, _, _, hq, _⟩ := dd'; ⟨q, hq⟩
  exact d_write I (by rw [e]; exact True.intro) hs he (dk_new (Nat.le_trans (dropK_le kvs k) z) hd (rel.drop k) dd')
end
def NoSl (i : Expr) : Prop := ∀ ov iv, subscripted i false ov iv = operate [ov, iv] (getItem ov iv)
theorem subD_of {prog : Program} {w : World} {A : Around} {E : Value → Shared → Prop} {s : Shared} {env : Env} {value slice : Expr} {pos : Pos} {T id : String} {Q : Value → Shared → Prop}
    (hl : typeLookup (.type T) "__getitem__" = pure (some (.builtin id))) (hs : NoSl slice)
    (h : wpAny (model prog w) A (eval value env) (fun o s₁ => wpAny (model prog w) A (eval slice env) (fun i s₂ => s₂.TypeIs o T ∧ wpAny (model prog w) A (getItem o i) Q E s₂) E s₁) E s) :
    wpAny (model prog w) A (eval (.Subscript value slice pos) env) Q E s := by
  refine Subscript_ (wpAny_mono h (fun o s₁ h₁ => wpAny_mono h₁ (fun i s₂ h₂ => ?_) fun _ _ x => x) fun _ _ x => x)
  obtain ⟨hT, h₂⟩ := h₂
  unfold subscriptTail
  refine wpAny_bind ?_
  rw [getitemInPython_of_ne hT.not_modules]
  refine wpAny_bind (wpAny_specialOf hT hl ?_)
  have fin : wpAny (model prog w) A (subscripted slice false o i) (fun r s₃ => wpAny (model prog w) A (letTemporaryGo value o r >>= fun _ => pure r) Q E s₃) E s₂ := by
    rw [hs o i]
    exact wpAny_operating (wpAny_mono h₂ (fun r s₃ h₃ => wpAny_bind (wpAny_letTemporaryGo (wpAny_pure h₃))) fun _ _ x => x)
  first
    | exact wpAny_pure (wpAny_bind fin)
    | exact wpAny_bind (wpAny_pure (wpAny_bind fin))
    | exact wpAny_bind fin

theorem dict_typeIs {X : Cx} {pins : List (Addr × Obj)} {σ : St} {H : Hp} {s : Shared} {a : Addr} {y : V} {o : Option V} (I : Inv X pins σ H s) (g : DGet H a y o) : s.TypeIs (.ref a) "dict" := by
  rcases g with ⟨kvs, k, e, _, _⟩ | ⟨kvs, k, b, e, _, _, _⟩
  · obtain ⟨_, _, vs, _, dd⟩ := dk_rd I.hok e
    exact dd.typeIs
  · obtain ⟨_, _, xs, _, dd⟩ := dt_rd I.hok e
    exact dd.typeIs
def tDGet (td ty : TE) : TE := fun σ H Q => td σ H fun x H1 => ty σ H1 fun y H2 => ∃ a v, x = .ref a ∧ DGet H2 a y (some v) ∧ Q v H2
def sDPut (td ty tv : TE) : TS := fun D σ H => tv σ H fun v H1 => td σ H1 fun x H2 => ty σ H2 fun y H3 => ∃ a H4, x = .ref a ∧ DPut H3 a y v H4 ∧ D.nx σ H4
def sDDel (td ty : TE) : TS := fun D σ H => td σ H fun x H1 => ty σ H1 fun y H2 => ∃ a kvs k, x = .ref a ∧ H2 a = some (.dK kvs) ∧ y = kV k ∧ (valV kvs k).isSome = true ∧ D.nx σ (upd H2 a (.dK (dropK kvs k)))

section
variable {X : Cx} {o i e value : Expr} {pos pos' tpos : Pos} {td ty tv : TE}
theorem pe_dget (hu : X.A.units + 1 < cLine) (ho : PE X o td) (hi : PE X i ty) (hs : NoSl i) : PE X (.Subscript o i pos) (tDGet td ty) := by
  intro pins s σ H Q I h
  refine subD_of PySem.F.slot_dict_getitem.lookup hs (thn (ho pins s σ H _ I h) fun u s1 ⟨x, H1, I1, rx, q1⟩ => thn (hi pins s1 σ H1 _ I1 q1) fun iv s2 ⟨y, H2, I2, ry, a, v, ex, g, q2⟩ => ?_)
  subst ex
  obtain rfl : u = Value.ref a := rx
  exact ⟨dict_typeIs I2 g, d_getItem hu I2 g ry fun w' s3 I3 rw' => ⟨v, H2, I3, rw', q2⟩⟩
theorem ps_dput (hu : X.A.units + 1 < cLine) (ho : PE X o td) (hi : PE X i ty) (hv : PE X value tv) (hs : swapsWith value (some (.Subscript o i pos')) pos.line X.env = pure false) :
    PS X (.Assign [.Subscript o i pos'] value pos) (sDPut td ty tv) := by
  intro pins s σ H D I h
  refine wpAny_Assign_Subscript (thn (hv pins s σ H _ I h) fun r s1 ⟨v, H1, I1, rv, q1⟩ => thn (ho pins s1 σ H1 _ I1 q1) fun u s2 ⟨x, H2, I2, rx, q2⟩ => thn (hi pins s2 σ H2 _ I2 q2) fun iv s3 ⟨y, H3, I3, ry, a, H4, ex, g, q3⟩ => ?_) hs
  subst ex
  obtain rfl : u = Value.ref a := rx
  exact d_setItem hu I3 g ry rv fun s4 I4 => ⟨σ, H4, I4, q3⟩
theorem ps_ddel (ho : PE X o td) (hi : PE X i ty) : PS X (.Delete [.Subscript o i tpos] pos) (sDDel td ty) := by
  intro pins s σ H D I h
  refine wpAny_Delete (wpAny_deleteEach_cons (wpAny_delete_Subscript (thn (ho pins s σ H _ I h) fun u s1 ⟨x, H1, I1, rx, q1⟩ => thn (hi pins s1 σ H1 _ I1 q1) fun iv s2 ⟨y, H2, I2, ry, a, kvs, k, ex, e, ey, l, q2⟩ => ?_)))
  subst ex ey
  obtain rfl : u = Value.ref a := rx
  exact d_delItem I2 e ry l fun s3 I3 => wpAny_deleteEach_nil ⟨σ, _, I3, q2⟩
end
section
variable {X : Cx} {pos : Pos}
end

def mergeK (kvs more : List (Key × V)) : List (Key × V) := more.foldl (fun acc kv => putK acc kv.1 kv.2) kvs
theorem KV.merge : ∀ {more : List (Key × V)} {rs : List (Key × Value)} {kvs : List (Key × V)} {vs : List (Key × Value)}, KV more rs → KV kvs vs → KV (mergeK kvs more) (merged vs rs) := by
  intro more rs kvs vs r
  unfold KV at r
  induction r generalizing kvs vs with
  | nil => intro q; exact q
  | @cons p q ps qs h t ih =>
    intro r0
    have e : KV (putK kvs p.1 p.2) (stored vs q.1 q.2) := by
      have := r0.put p.1 h.2
      rw [← h.1]; exact this
    exact ih e
theorem length_mergeK : ∀ (more kvs : List (Key × V)), (mergeK kvs more).length ≤ kvs.length + more.length
  | [], kvs => by show kvs.length ≤ kvs.length + 0; lia
  | p :: r, kvs => by
    have h1 := length_mergeK r (putK kvs p.1 p.2)
    have h2 := length_putK kvs p.1 p.2
    show (mergeK (putK kvs p.1 p.2) r).length ≤ _
    rw [List.length_cons]; lia
structure M1 (X : Cx) (o : Expr) (m : Str) (apos : Pos) (e : Expr) (cpos : Pos) : Prop where
  base : attributeBase o m X.env (eval o X.env) = eval o X.env
  few : ((backTo cpos (starEach [e] X.env)).all (fun x => !x.1) && (backToKw cpos (keywordEach [] X.env)).all (fun x => x.1.isSome)
    && decide (([e] : List Expr).length + ([] : List Keyword).length + (if ([] : List Keyword).isEmpty then 0 else 1) < 30)) = true
  line : (apos.endLine == cpos.line) = true
  trees : backTo cpos (starEach [e] X.env) = [(false, eval e X.env)]
structure M2 (X : Cx) (o : Expr) (m : Str) (apos : Pos) (e f : Expr) (cpos : Pos) : Prop where
  base : attributeBase o m X.env (eval o X.env) = eval o X.env
  few : ((backTo cpos (starEach [e, f] X.env)).all (fun x => !x.1) && (backToKw cpos (keywordEach [] X.env)).all (fun x => x.1.isSome)
    && decide (([e, f] : List Expr).length + ([] : List Keyword).length + (if ([] : List Keyword).isEmpty then 0 else 1) < 30)) = true
  line : (apos.endLine == cpos.line) = true
  trees : backTo cpos (starEach [e, f] X.env) = [(false, eval e X.env), (false, eval f X.env)]
def IsD (H : Hp) (a : Addr) : Prop := (∃ kvs, Rd H a (.dK kvs)) ∨ ∃ kvs, Rd H a (.dT kvs)
theorem isD_at {X : Cx} {pins : List (Addr × Obj)} {σ : St} {H : Hp} {s : Shared} {a : Addr} (I : Inv X pins σ H s) (d : IsD H a) :
    s.TypeIs (.ref a) "dict" ∧ (∀ b, Value.ref a = .ref b → ∃ ob, s.heap.get? b = some ob ∧ ob.dict = none) ∧ (a == sysModules) = false := by
  rcases d with ⟨kvs, e⟩ | ⟨kvs, e⟩
  · obtain ⟨_, hd, vs, _, dd⟩ := dk_rd I.hok e
    refine ⟨dd.typeIs, fun b q => ?_, hd⟩
    cases q
    obtain ⟨ob, _, _, h1, h2, _⟩ := dd
    exact ⟨ob, h1, h2.2.1⟩
  · obtain ⟨_, hd, xs, _, dd⟩ := dt_rd I.hok e
    refine ⟨dd.typeIs, fun b q => ?_, hd⟩
    cases q
    obtain ⟨ob, _, _, h1, h2, _⟩ := dd
    exact ⟨ob, h1, h2.2.1⟩

section
variable {X : Cx} {pins : List (Addr × Obj)} {σ : St} {H : Hp} {s : Shared} {a : Addr} {y d : V} {u r : Value} {o : Option V} {A : Around} {E : Value → Shared → Prop}
end
def tDPop1 (td ty : TE) : TE := fun σ H Q => td σ H fun x H1 => ∃ a, x = .ref a ∧ IsD H1 a ∧ ty σ H1 fun y H2 => ∃ kvs k v, H2 a = some (.dK kvs) ∧ y = kV k ∧ valV kvs k = some v ∧ Q v (upd H2 a (.dK (dropK kvs k)))
section
variable {X : Cx} {o e f : Expr} {apos cpos : Pos} {td ty tx : TE}
theorem pe_dpop1 (ho : PE X o td) (he : PE X e ty) (m : M1 X o "pop" apos e cpos) : PE X (.Call (.Attribute o "pop" apos) [e] [] cpos) (tDPop1 td ty) := by
  intro pins s σ H Q I h
  refine wpAny_Call_method m.base m.few m.line PySem.F.plainAttrs_dict PySem.F.slot_dict_pop PySem.F.type_dict_pop (thn (ho pins s σ H _ I h) fun u s1 ⟨x, H1, I1, rx, a, ex, d, q1⟩ => ?_)
  subst ex
  obtain rfl : u = Value.ref a := rx
  obtain ⟨t1, t2, _⟩ := isD_at I1 d
  refine ⟨t1, t2, ?_⟩
  rw [m.trees]
  refine Calls.callWith_builtin rfl (Calls.evalArgs_plain (Calls.spliced_cons (thn (he pins s1 σ H1 _ I1 q1) fun iv s2 ⟨y, H2, I2, ry, kvs, k, v, ea, ey, l, q2⟩ => Calls.spliced_nil ?_)))
  subst ey
  exact d_pop I2 ea ry l (.inl rfl) fun w' s3 I3 rw' => ⟨v, _, I3, rw', q2⟩
end
section
variable {X : Cx} {pins : List (Addr × Obj)} {σ : St} {H : Hp} {s : Shared} {a : Addr} {kvs : List (Key × V)} {A : Around} {E : Value → Shared → Prop}
end


section
variable {X : Cx} {pins : List (Addr × Obj)} {σ : St} {H : Hp} {s : Shared} {a : Addr} {y : V} {u : Value} {A : Around} {E : Value → Shared → Prop}
end
end L2
end
section
set_option maxHeartbeats 4000001
namespace Bn
open PySem L2 Own
structure KAd where
  d : Addr
  db : Addr
  lo : Addr
  lg : Addr
  lt : Addr
section
variable {A : KAd} {n : Int}
end
theorem way_mem {os : List (Option (Nat × Nat))} {b : Nat} : b ∈ wayL os ↔ ∃ o, os[b]? = some (some o) := by
  unfold wayL
  rw [List.mem_filter, List.mem_range]
  constructor
  · rintro ⟨l, h⟩
    rw [List.getD_eq_getElem?_getD, List.getElem?_eq_getElem l] at h
    cases e : os[b] with
    | none => rw [e] at h; cases h
    | some o => exact ⟨o, by rw [List.getElem?_eq_getElem l, e]⟩
  · rintro ⟨o, h⟩
    obtain ⟨l, e⟩ := List.getElem?_eq_some_iff.mp h
    refine ⟨l, ?_⟩
    rw [List.getD_eq_getElem?_getD, h]; rfl
theorem way_none {os : List (Option (Nat × Nat))} {b : Nat} : wayL (os.set b none) = (wayL os).filter fun c => decide (c ≠ b) := by
  unfold wayL
  rw [List.length_set, List.filter_filter]
  refine List.filter_congr fun c hc => ?_
  rw [List.getD_eq_getElem?_getD, List.getD_eq_getElem?_getD, List.getElem?_set]
  by_cases e : b = c
  · subst e
    simp
    split <;> rfl
  · have e2 : ¬ c = b := fun z => e z.symm
    simp [e, e2]
end Bn
namespace Bn
open PySem L2 Own
theorem put_new {kvs : List (Key × V)} {k : Key} {v : V} (h : ∀ p ∈ kvs, ¬ p.1 = k) : putK kvs k v = kvs ++ [(k, v)] := by
  unfold putK
  rw [if_neg]
  intro z
  obtain ⟨p, hp, q⟩ := List.any_eq_true.mp z
  exact h p hp (of_decide_eq_true q)
end Bn
namespace Bn
open PySem L2 Own
def onB (lane : Nat) (f : Nat × Nat) : Bool := decide (lane = f.1) || decide (lane = f.2)
def lfL (fs : List (Nat × Nat)) (lane : Nat) (last : Int) (j : Nat) : List Nat := (List.range j).filter fun i => decide (last < (i : Int)) && onB lane (fs.getD i (0, 0))
theorem lf_succ (fs : List (Nat × Nat)) (lane : Nat) (last : Int) (j : Nat) : lfL fs lane last (j + 1) = lfL fs lane last j ++ (if (decide (last < (j : Int)) && onB lane (fs.getD j (0, 0))) = true then [j] else []) := by
  unfold lfL
  rw [List.range_succ, List.filter_append]
  congr 1
  rw [List.filter_cons, List.filter_nil]
theorem lf_len (fs : List (Nat × Nat)) (lane : Nat) (last : Int) (j : Nat) : (lfL fs lane last j).length ≤ j := by
  unfold lfL
  exact Nat.le_trans (List.length_filter_le _ _) (by rw [List.length_range]; exact Nat.le_refl _)
theorem lf_next {fs : List (Nat × Nat)} {lane k : Nat} {last : Int} (l0 : -1 ≤ last) (h : IsNext fs lane (last + 1).toNat k) : (k = fs.length → lfL fs lane last fs.length = []) ∧ (k < fs.length → ∃ r, lfL fs lane last fs.length = k :: r) := by
  have no : ∀ i, i < k → i < fs.length → (decide (last < (i : Int)) && onB lane (fs.getD i (0, 0))) = false := fun i ik il => by
    by_cases z : last < (i : Int)
    · have := h.none i fs[i] (by lia) ik (List.getElem?_eq_getElem il)
      rw [decide_eq_true z, Bool.true_and, List.getD_eq_getElem?_getD, List.getElem?_eq_getElem il]
      show onB lane fs[i] = false
      unfold onB
      rw [decide_eq_false (fun q => this (.inl q)), decide_eq_false (fun q => this (.inr q))]; rfl
    · rw [decide_eq_false z]; rfl
  have upto : ∀ j, j ≤ k → j ≤ fs.length → lfL fs lane last j = [] := fun j => by
    induction j with
    | zero => intro _ _; rfl
    | succ j ih =>
      intro a b
      rw [lf_succ, ih (by lia) (by lia), no j (by lia) (by lia)]; rfl
  refine ⟨fun e => upto _ (by lia) (Nat.le_refl _), fun kl => ?_⟩
  have here := h.here fs[k] (List.getElem?_eq_getElem kl)
  have yes : (decide (last < (k : Int)) && onB lane (fs.getD k (0, 0))) = true := by
    have := h.from_
    rw [decide_eq_true (by lia), Bool.true_and, List.getD_eq_getElem?_getD, List.getElem?_eq_getElem kl]
    show onB lane fs[k] = true
    unfold onB
    rcases here with q | q
    · rw [decide_eq_true q]; rfl
    · rw [decide_eq_true q, Bool.or_true]
  have more : ∀ j, k + 1 + j ≤ fs.length → ∃ r, lfL fs lane last (k + 1 + j) = k :: r := fun j => by
    induction j with
    | zero =>
      intro _
      exact ⟨[], by rw [Nat.add_zero, lf_succ, upto k (Nat.le_refl _) (by lia), yes]; rfl⟩
    | succ j ih =>
      intro b
      obtain ⟨r, e⟩ := ih (by lia)
      exact ⟨_, by rw [show k + 1 + (j + 1) = (k + 1 + j) + 1 by lia, lf_succ, e]; rfl⟩
  obtain ⟨r, e⟩ := more (fs.length - (k + 1)) (by lia)
  rw [show k + 1 + (fs.length - (k + 1)) = fs.length by lia] at e
  exact ⟨r, e⟩
end Bn
end
section
set_option maxHeartbeats 4000001
namespace Own
open PySem PySem.Spec PyProof.Rows
theorem lk_list_keys : typeLookup (.type "list") "keys" = pure none := by
  exact (by rw [typeLookup_type, builtinLookup_eq_fast]; kernel_rfl)
theorem lk_list_hook : typeLookup (.type "list") "__getattr__" = pure none := by
  exact (by rw [typeLookup_type, builtinLookup_eq_fast]; kernel_rfl)
section
variable {prog : Program} {w : World} {A : Around} {E : Value → Shared → Prop} {s : Shared} {l : Addr} {its : Array Value} {n : Nat}
theorem keys_raise {u : Tok} {Q : Fin → Shared → Prop} (hx : s.heap.get? l = some { cls := .type "list", data := .seq its n }) (hA : A.handled = none)
    (h : ∀ h' tk e, Heap.NewAttrErr s.heap h' e (.ref l) "keys" → E (.ref e) { s with heap := h', toks := tk }) :
    wpAny (model prog w) A (Builtin.«object.__getattribute__» ⟨[.ref l, .str "keys" u], []⟩) Q E s := by
  obtain ⟨hp, gs, dr, tk, os⟩ := s
  have ty : (⟨hp, gs, dr, tk, os⟩ : Shared).TypeIs (.ref l) "list" := ⟨_, hx, rfl⟩
  have f4 := lk_list_keys; unfold Builtin.«object.__getattribute__»
  repeat any_goals (first | assumption | wp_step)
  repeat any_goals (first | assumption | wp_step)
  exact wpAny_raiseAttrError hA h (attrMsg_fits (by decide +kernel) (by size_fits))
theorem keys_call {u : Tok} {R : Result → Shared → Prop} (hx : s.heap.get? l = some { cls := .type "list", data := .seq its n }) (hA : A.handled = none)
    (h : ∀ h' tk e, Heap.NewAttrErr s.heap h' e (.ref l) "keys" → R (.error (.ref e)) { s with heap := h', toks := tk }) :
    codeAny (model prog w) A (.call (.builtin "list.__getattribute__") ⟨[.ref l, .str "keys" u], []⟩) R s :=
  codeAny_call_builtin F.slot_list_getattribute.plain F.entry_list_ga (F.slot_list_getattribute.check _ _ _ _ _ _ _ _ (show s.TypeIs (.ref l) "list" from ⟨_, hx, rfl⟩) (F.args_list_getattribute_2 _ _) (keys_raise (A := A.in1) hx hA h))
theorem list_keys {Q : Option Value → Shared → Prop} (hx : s.heap.get? l = some { cls := .type "list", data := .seq its n }) (hA : A.handled = none)
    (h : ∀ h' tk, (∀ b o, s.heap.get? b = some o → h'.get? b = some o) → Q none { s with heap := h', toks := tk }) :
    wpAny (model prog w) A (getAttr? (.ref l) "keys") Q E s := by
  obtain ⟨hp, gs, dr, tk, os⟩ := s
  have ty : (⟨hp, gs, dr, tk, os⟩ : Shared).TypeIs (.ref l) "list" := ⟨_, hx, rfl⟩
  have f1 := sub_AttributeError
  have g2 := F.slot_list_getattribute.lookup
  have f3 := F.slot_list_getattribute.bind (.ref l)
  have f5 := lk_list_hook; unfold getAttr? getAttrBy? getAttrBy
  repeat any_goals (first | assumption | wp_step)
  refine keys_call hx hA fun h' tk' e ne => ?_
  obtain ⟨t', u', he⟩ := ne.there
  have te : ({ heap := h', gens := gs, drawn := dr, toks := tk', os := os } : Shared).TypeIs (.ref e) "AttributeError" := ⟨_, he, rfl⟩
  dsimp only
  unfold getattributeRaised
  repeat any_goals (first | assumption | wp_step)
  exact h h' tk' ne.keeps
end
theorem entry_upd_loop : entryFor table "dict.update.loop" = some Builtin.«dict.update.loop» := entryFor_of_fast (by kernel_rfl)
theorem plain_upd_loop : plainId "dict.update.loop" = true := by decide +kernel
section
variable {prog : Program} {w : World} {K : Type} [DecidableEq K] {knd : KeyKind prog w K} {A : Around} {E : Value → Shared → Prop} {d it l : Addr} {its : Array Value} {ps : List (K × Value)} {res : Value}
def PairsIn (knd : KeyKind prog w K) (h : Heap) (its : Array Value) (ps : List (K × Value)) : Prop :=
  its.size = ps.length ∧ ∀ (i : Nat) (x : Value), its[i]? = some x → ∃ t key v k ob m, x = .ref t ∧ h.get? t = some ob ∧ ob.cls = .type "tuple" ∧ ob.data = .seq #[key, v] m ∧ knd.is k key = true ∧ ps[i]? = some (k, v)
theorem PairsIn.keep {h h' : Heap} (p : PairsIn knd h its ps) (f : ∀ b o, o.cls = .type "tuple" → h.get? b = some o → h'.get? b = some o) : PairsIn knd h' its ps :=
  ⟨p.1, fun i x e => let ⟨t, key, v, k, ob, m, e1, e2, e3, e4⟩ := p.2 i x e; ⟨t, key, v, k, ob, m, e1, f t ob e3 e2, e3, e4⟩⟩
theorem stored_len (kvs : List (K × Value)) (k : K) (v : Value) : (stored kvs k v).length ≤ kvs.length + 1 := by
  unfold stored
  split
  · rw [List.length_map]; lia
  · rw [List.length_append]; exact Nat.le_refl _
theorem pairs_loop {R : Result → Shared → Prop} (hh : A.handled = none) : ∀ (m i : Nat) (s : Shared) (kvs : List (K × Value)), i + m = its.size → s.heap.IsListIter it l i → s.heap.IsList l its → s.heap.DictOf knd d kvs → PairsIn knd s.heap its ps → it ≠ d → kvs.length + m ≤ sizeLine →
    (∀ h' tk, h'.DictOf knd d (merged kvs (ps.drop i)) → (∀ b o, b ≠ d → b ≠ it → s.heap.get? b = some o → h'.get? b = some o) → R (.ok (.ret res)) { s with heap := h', toks := tk }) →
    codeAny (model prog w) A (.builtin "dict.update.loop" ⟨[.ref d, .ref it, rawInt (i : Int), res], []⟩) R s := by
  intro m
  induction m with
  | zero =>
    intro i s kvs im hit hl hd hp ne hz fin
    refine codeAny_builtin entry_upd_loop ?_
    rw [Around.under_plainId plain_upd_loop]
    show wpAny _ A.in1 (pyNext (Value.ref it) >>= _) _ _ _
    refine wpAny_bind (wpAny_pyNext_list_end (A := A.in1) hh hit hl (Array.getElem?_eq_none (by lia)) fun h' kk => ?_)
    refine wpAny_bind (wpAny_pure (wpAny_pure (fin h' s.toks ?_ fun b o _ nb e => kk b o nb e)))
    rw [List.drop_eq_nil_of_le (by rw [← hp.1]; lia)]
    exact hd.extBut kk (Ne.symm ne)
  | succ m ih =>
    intro i s kvs im hit hl hd hp ne hz fin
    obtain ⟨x, ex⟩ : ∃ x, its[i]? = some x := ⟨_, getElem?_pos its i (by lia)⟩
    obtain ⟨t, key, v, k, ob, mm, rfl, et, ct, dt, hk, epk⟩ := hp.2 i x ex
    refine codeAny_builtin entry_upd_loop ?_
    rw [Around.under_plainId plain_upd_loop]
    show wpAny _ A.in1 (pyNext (Value.ref it) >>= _) _ _ _
    refine wpAny_bind (wpAny_pyNext_list_item (A := A.in1) hit hl ex fun h1 hit1 sb1 => ?_)
    have nt : t ≠ it := by
      rintro rfl
      obtain ⟨o, e, c, _⟩ := hit
      rw [et] at e
      obtain rfl := Option.some.inj e
      rw [ct] at c; exact absurd (Value.type.inj c) (by decide)
    have nd : t ≠ d := by
      rintro rfl
      obtain ⟨o, es, ep, e, _, dd, _⟩ := hd
      rw [et] at e
      obtain rfl := Option.some.inj e
      rw [dt] at dd; cases dd
    have nl : l ≠ it := by
      rintro rfl
      obtain ⟨o, e, c, _⟩ := hit
      obtain ⟨o', e', c', _⟩ := hl
      rw [e'] at e
      obtain rfl := Option.some.inj e
      rw [c'] at c; exact absurd (Value.type.inj c) (by decide)
    have nld : l ≠ d := by
      rintro rfl
      obtain ⟨o', e', c', n', d'⟩ := hl
      obtain ⟨o, es, ep, e, _, dd, _⟩ := hd
      rw [e'] at e
      obtain rfl := Option.some.inj e
      rw [d'] at dd; cases dd
    have et1 : h1.get? t = some ob := (sb1.2 t nt).trans et
    have ty : ({ s with heap := h1 } : Shared).TypeIs (.ref t) "tuple" := ⟨ob, et1, ct⟩
    have hd1 := hd.sameBut sb1 (Ne.symm ne)
    refine wpAny_bind (wpAny_holding (wpAny_bind (wpAny_tryCatch ?_)))
    unfold Builtin.Dict.pairItems
    refine wpAny_bind (wpAny_typeOf ty ?_)
    rw [if_pos (by decide)]
    refine wpAny_bind (wpAny_seqItems et1 dt (wpAny_pure ?_))
    refine wpAny_holding (wpAny_dictSet_pairs hk hd1 (fun h2 hd2 sb2 => ?_) (by lia))
    refine wpAny_pure ⟨plainId_quiet plain_upd_loop _, ?_⟩
    have oth : ∀ b o, b ≠ d → b ≠ it → s.heap.get? b = some o → h2.get? b = some o := fun b o b1 b2 e => (sb2.2 b b1).trans ((sb1.2 b b2).trans e)
    have sl := stored_len kvs k v
    have hit2 : h2.IsListIter it l (i + 1) := by
      obtain ⟨o, e, r⟩ := hit1
      exact ⟨o, (sb2.2 it ne).trans e, r⟩
    have hl2 : h2.IsList l its := by
      obtain ⟨o, e, r⟩ := hl
      exact ⟨o, oth l o nld nl e, r⟩
    have hp2 : PairsIn knd h2 its ps := ⟨hp.1, fun j y ey => by
      obtain ⟨t', key', v', k', ob', m', e1, e2, e3, e4, e5⟩ := hp.2 j y ey
      refine ⟨t', key', v', k', ob', m', e1, oth t' ob' ?_ ?_ e2, e3, e4, e5⟩
      · rintro rfl
        obtain ⟨o, es, ep, e, _, dd, _⟩ := hd
        rw [e2] at e
        obtain rfl := Option.some.inj e
        rw [e4] at dd; cases dd
      · rintro rfl
        obtain ⟨o, e, c, _⟩ := hit
        rw [e2] at e
        obtain rfl := Option.some.inj e
        rw [e3] at c; exact absurd (Value.type.inj c) (by decide)⟩
    have eq : rawInt ((i : Int) + 1) = rawInt (((i + 1 : Nat) : Int)) := rfl
    refine ih (i + 1) _ (stored kvs k v) (by lia) hit2 hl2 hd2 hp2 ne (by lia) fun h' tk d' kk => fin h' tk ?_ fun b o b1 b2 e => kk b o b1 b2 (oth b o b1 b2 e)
    have il : i < ps.length := by rw [← hp.1]; lia
    rw [List.drop_eq_getElem_cons il, show ps[i] = (k, v) from (List.getElem?_eq_some_iff.mp epk).2]
    exact d'
theorem dict_pairs {s : Shared} {n : Nat} {Q : Value → Shared → Prop} (hh : A.handled = none) (hl : s.heap.get? l = some { cls := .type "list", data := .seq its n }) (hp : PairsIn knd s.heap its ps) (hz : its.size ≤ sizeLine)
    (h : ∀ h' tk, h'.DictOf knd s.heap.objs.size (merged [] ps) → (∀ b o, s.heap.get? b = some o → h'.get? b = some o) → Q (.ref s.heap.objs.size) { s with heap := h', toks := tk }) :
    wpAny (model prog w) A (call (.type "dict") [.ref l]) Q E s := by
  refine callType_codes (Q₁ := fun ob s1 => ob = .ref s.heap.objs.size ∧ s1 = { s with heap := s.heap.push { cls := .type "dict", data := .dict #[] } }) F.kt_called_dict (F.kt_typeCall_dict_1 _) F.entry_dict_init (kt_code_dict_new _ ⟨rfl, rfl⟩) ?_
  rintro ob s1 ⟨rfl, rfl⟩
  have nw : (s.heap.push { cls := .type "dict", data := .dict #[] }).DictOf knd s.heap.objs.size [] := Heap.DictOf.new s.heap
  have hl1 := Heap.get?_push_of_some ({ cls := .type "dict", data := .dict #[] } : Obj) hl
  have tl : ({ s with heap := s.heap.push { cls := .type "dict", data := .dict #[] } } : Shared).TypeIs (.ref l) "list" := ⟨_, hl1, rfl⟩
  refine ⟨nw.typeIs, F.args_dict_init_2 _ _, ?_⟩
  unfold Builtin.«dict.__init__» Builtin.Dict.selfAndRest
  refine wpAny_bind (wpAny_bind (wpAny_notOrdered_dict nw.typeIs (wpAny_pure ?_)))
  show wpAny _ _ (Builtin.Dict.updateFrom "dict.__init__" s.heap.objs.size (Value.ref l) [] Value.none) _ _ _
  unfold Builtin.Dict.updateFrom; refine wpAny_bind (wpAny_typeOf tl ?_)
  rw [if_pos (by decide)]
  refine wpAny_bind (list_keys hl1 hh fun h2 tk2 kk2 => ?_)
  rw [if_pos (by rfl)]
  refine wpAny_bind (wpAny_rule ?_)
  have hl2 := kk2 _ _ hl1
  refine wpAny_bind (wpAny_pyIter_list ⟨_, hl2, rfl, _, rfl⟩ ?_)
  refine wpAny_pure ⟨plainId_quiet plain_upd_loop _, ?_⟩
  have kk3 : ∀ b o, (s.heap.push { cls := .type "dict", data := .dict #[] }).get? b = some o → (h2.push ({ cls := .type "list_iterator", data := .fields #[.ref l, .int 0 0] } : Obj)).get? b = some o := fun b o e => Heap.get?_push_of_some _ (kk2 b o e)
  have dl : s.heap.objs.size < h2.objs.size := by
    obtain ⟨o, _, _, e, _⟩ := nw
    exact Heap.lt_size (kk2 _ _ e)
  refine pairs_loop (A := A.in1) (R := wants (fun r s₂ => r = Value.none ∧ Q (.ref s.heap.objs.size) s₂) E) (knd := knd) (it := h2.objs.size) (ps := ps) (l := l) (its := its) hh its.size 0 { s with heap := h2.push { cls := .type "list_iterator", data := .fields #[.ref l, .int 0 0] }, toks := tk2 } [] (by lia) ⟨_, Heap.get?_push_size _ rfl, rfl, rfl⟩ ⟨_, Heap.get?_push_of_some _ hl2, rfl, _, rfl⟩ (nw.keep kk3) (hp.keep fun b o _ e => kk3 b o (Heap.get?_push_of_some _ e)) (Nat.ne_of_gt dl) (by simpa using hz) fun h' tk dd kk => ⟨rfl, h h' tk dd fun b o e => ?_⟩
  have bl := Heap.lt_size e
  exact kk b o (Nat.ne_of_lt bl) (Nat.ne_of_lt (Nat.lt_trans bl dl)) (kk3 b o (Heap.get?_push_of_some _ e))
end
end Own
end
section
set_option maxHeartbeats 4000001
namespace L2
open PySem PySem.Spec PyProof.Rows Own
def PrK (H : Hp) (ts : List V) (kvs : List (Key × V)) : Prop := ts.length = kvs.length ∧ ∀ (i : Nat) t, ts[i]? = some t → ∃ a k v, t = .ref a ∧ kvs[i]? = some (k, v) ∧ H a = some (.tup [kV k, v])
section
variable {X : Cx} {pins : List (Addr × Obj)} {σ : St} {H : Hp} {s : Shared} {A : Around} {E : Value → Shared → Prop}
theorem prk_vals (I : Inv X pins σ H s) : ∀ {ts : List V} {kvs : List (Key × V)} {its : List Value}, Vals ts its → PrK H ts kvs → ∃ ps, KV kvs ps ∧ its.length = ps.length ∧ ∀ (i : Nat) (x : Value), its[i]? = some x → ∃ t key v k ob m, x = .ref t ∧ s.heap.get? t = some ob ∧ ob.cls = .type "tuple" ∧ ob.data = .seq #[key, v] m ∧ (mixKind X.prog X.w).is k key = true ∧ ps[i]? = some (k, v)
  | [], [], _, .nil, _ => ⟨[], .nil, rfl, fun i x e => by simp at e⟩
  | [], _ :: _, _, _, h => by have := h.1; simp at this
  | _ :: _, [], _, _, h => by have := h.1; simp at this
  | t :: ts, kv :: kvs, _, .cons (b := u) r rs, h => by
    obtain ⟨ps, rel, len, hp⟩ := prk_vals I rs ⟨by have := h.1; simpa using this, fun i t' e => by
      have := h.2 (i + 1) t' (by simpa using e)
      simpa using this⟩
    obtain ⟨a, k, v, rfl, e2, ha⟩ := h.2 0 t rfl
    obtain rfl : kv = (k, v) := by simpa using e2
    cases r
    obtain ⟨its2, g, ⟨o, eo, co, m, dm⟩, _⟩ := I.tuple (SqT.of (K := X.K) ha)
    obtain ⟨x, y, rfl, rx, ry⟩ := vals2 g
    refine ⟨(k, y) :: ps, .cons ⟨rfl, ry⟩ rel, by simp [len], fun i z e => ?_⟩
    cases i with
    | zero =>
      obtain rfl : Value.ref a = z := by simpa using e
      exact ⟨a, x, y, k, o, m, rfl, eo, co, dm, kV_is rx, rfl⟩
    | succ i => exact hp i z (by simpa using e)
theorem d_pairs {l : Addr} {ts : List V} {kvs : List (Key × V)} {Q : Value → Shared → Prop} (hh : A.handled = none) (I : Inv X pins σ H s) (e : H l = some (.lst ts)) (p : PrK H ts kvs)
    (h : ∀ q s', H q = none → Inv X pins σ (upd H q (.dK (mergeK [] kvs))) s' → Q (.ref q) s') : wpAny (model X.prog X.w) A (call (.type "dict") [.ref l]) Q E s := by
  obtain ⟨z, its, n, r, el⟩ := I.hok _ _ e
  obtain ⟨ps, rel, len, hp⟩ := prk_vals I r p
  have zl : kvs.length ≤ sizeLine := by rw [← p.1]; exact z
  refine dict_pairs (knd := mixKind X.prog X.w) (ps := ps) hh el ⟨by simpa using len, fun i x ex => hp i x (by simpa using ex)⟩ (by rw [List.size_toArray, ← r.length]; exact z) fun h' tk dd kk => ?_
  refine h _ _ (I.hok.fresh (Nat.le_refl _)) (I.laid (a := s.heap.objs.size) (t' := tk) kk (Nat.le_refl _) (dk_new ?_ (beq_eq_false_iff_ne.mpr (Ne.symm (Nat.ne_of_lt I.big))) (rel.merge .nil) dd))
  have := length_mergeK kvs []
  simp at this
  lia
end
def rDPairs : List V → Hp → VK → Prop := fun vs H Q => ∃ l ts kvs, vs = [.ref l] ∧ H l = some (.lst ts) ∧ PrK H ts kvs ∧ ∀ q, H q = none → Q (.ref q) (upd H q (.dK (mergeK [] kvs)))
section
variable {X : Cx} {o e : Expr} {td ty : TE} {apos cpos : Pos}
theorem call_dictP (hc : X.calm = true) : CallR X (.type "dict") rDPairs := by
  intro pins s σ H vs us Q I r h
  obtain ⟨l, ts, kvs, rfl, el, p, q⟩ := h
  obtain ⟨u, rfl, rx⟩ := vals1 r
  obtain rfl : u = Value.ref l := rx
  exact d_pairs (I.ok.hd hc) I el p fun x s' hx I' => ⟨.ref x, _, I', rfl, q x hx⟩
end
structure MgD (mg : Str → Option Value) : Prop where
  dict : mg "dict" = none
end L2
end
section
set_option maxHeartbeats 4000001
namespace L2
open PySem PySem.Spec PyProof.Rows Own Ts
section
variable {X : Cx} {pins : List (Addr × Obj)} {σ : St} {H : Hp} {s : Shared}
end
end L2
end
section
set_option maxHeartbeats 4000001
namespace L2
open PySem PySem.Spec PyProof.Rows Own Ts PySem.W
section
variable {X : Cx}
end
end L2
end
section
set_option maxHeartbeats 4000001
namespace L2
open PySem PySem.Spec PyProof.Rows Own
section
variable {X : Cx} {pins : List (Addr × Obj)} {σ : St} {H : Hp} {s : Shared} {d : Addr} {o : Obj} {kvs : List (Key × V)}
theorem Inv.reword {u v : HO} (I : Inv X pins σ H s) (hd : H d = some u) (nt : ∀ xs, u ≠ .tup xs) (nb : ∀ ps, u ≠ .tbl ps) (no : ∀ a, u ≠ .own a) (nz : ∀ o' u', X.H₀ d ≠ some (.frz o' u')) (new : ObjOk X.prog X.w (upd H d v) s.heap d v) : Inv X pins σ (upd H d v) s := by
  have ne : ∀ {b}, H b = none → b ≠ d := fun e z => by rw [z, hd] at e; cases e
  have oth : ∀ {b} {q : HO}, H b = some q → q ≠ u → upd H d v b = some q := fun {b q} e n => by
    rw [upd_ne]; · exact e
    · intro z
      rw [z, hd] at e
      exact n (Option.some.inj e).symm
  refine ⟨I.ok, I.os, I.bare, ⟨I.base.keep, I.base.slot, fun b q e n hx => ?_, I.base.there, fun b xs e => oth (I.base.tups b xs e) fun z => nt xs z.symm, fun b q w e => ?_, fun b ps e => ?_⟩, I.loc, I.cell, ?_, fun x c e => ?_, fun p hp => ?_, fun b q e => ?_, I.len⟩
  · have z := I.base.free b q e n hx
    rw [upd_ne (ne z)]; exact z
  · rw [upd_ne]
    · exact I.base.frzs b q w e
    · rintro rfl; exact nz q w e
  · obtain ⟨more, z⟩ := I.base.tbls b ps e
    exact ⟨more, oth z fun q => nb _ q.symm⟩
  · rw [upd_ne (ne I.free)]; exact I.free
  · have z := I.freeC x c e
    rw [upd_ne (ne z)]; exact z
  · obtain ⟨p1, p2, p3⟩ := I.pin p hp
    exact ⟨p1, by rw [upd_ne (ne p2)]; exact p2, p3⟩
  · by_cases z : b = d
    · subst z
      rw [upd_same] at e
      cases e; exact new
    · rw [upd_ne z] at e
      exact (I.hok b q e).stay (fun c w _ r => r) (fun c r => oth r fun z => no _ z.symm) fun c xs r => oth r fun z => nt _ z.symm
theorem Inv.freeze (I : Inv X pins σ H s) (hd : H d = some (.dK kvs)) : ∃ o es ep, s.heap.get? d = some o ∧ o.data = .dict es ep ∧ Inv X pins σ (upd H d (.frz o (.dK kvs))) s := by
  obtain ⟨z, hm, vs, kv, dd⟩ := dk_of I.hok hd
  have dd2 := dd
  obtain ⟨o, es, ep, h1, h2, h3, _⟩ := dd2
  refine ⟨o, es, ep, h1, h3, I.reword hd (fun xs q => by cases q) (fun xs q => by cases q) (fun xs q => by cases q) (fun o' u' q => ?_) ⟨h1, z, hm, vs, kv, dd⟩⟩
  have := I.base.frzs d o' u' q
  rw [hd] at this; cases this
theorem Inv.thaw (I : Inv X pins σ H s) (hd : H d = some (.frz o (.dK kvs))) (nz : ∀ o' u', X.H₀ d ≠ some (.frz o' u')) : Inv X pins σ (upd H d (.dK kvs)) s := by
  obtain ⟨_, z, hm, vs, kv, dd⟩ := (show ObjOk X.prog X.w H s.heap d (.frz o (.dK kvs)) from I.hok d _ hd)
  exact I.reword hd (fun xs q => by cases q) (fun xs q => by cases q) (fun xs q => by cases q) nz ⟨z, hm, vs, kv, dd⟩
theorem Inv.melted (I : Inv X pins σ H s) {kvs' : List (Key × V)} (hd : H d = some (.dK kvs')) : ∀ o' u', X.H₀ d ≠ some (.frz o' u') := fun o' u' q => by
  have := I.base.frzs d o' u' q
  rw [hd] at this; cases this
theorem Inv.walked {es : Array DictEntry} {ep : Nat} (I : Inv X pins σ H s) (hd : H d = some (.frz o (.dK kvs))) (ho : o.data = .dict es ep) : ∃ vs, KV kvs vs ∧ s.heap.DictAt (mixKind X.prog X.w) d vs ep := by
  obtain ⟨g, z, hm, vs, kv, o2, es2, ep2, h1, h2, h3, h4⟩ := (show ObjOk X.prog X.w H s.heap d (.frz o (.dK kvs)) from I.hok d _ hd)
  rw [g] at h1
  obtain rfl := Option.some.inj h1
  rw [ho] at h3
  cases h3
  exact ⟨vs, kv, o, _, g, h2, ho, h4⟩
end
theorem kV_rel {k : Key} {v : Value} (h : keyIs k v = true) : RelV (kV k) v := by
  rcases keyIs_shape h with ⟨i, t, rfl, rfl⟩ | ⟨x, t, rfl, rfl⟩
  · exact ⟨t, rfl⟩
  · exact ⟨t, rfl⟩
theorem KV.at {kvs : List (Key × V)} {vs : List (Key × Value)} (r : KV kvs vs) : ∀ {i : Nat} {k : Key} {u : Value}, vs[i]? = some (k, u) → ∃ v, kvs[i]? = some (k, v) ∧ RelV v u := by
  unfold KV at r
  induction r with
  | nil => intro i k u h; cases h
  | cons q t ih =>
    intro i k u h
    cases i with
    | zero =>
      rename_i a b _ _
      obtain ⟨k', v'⟩ := a
      cases Option.some.inj h
      obtain ⟨q1, q2⟩ := q
      cases q1
      exact ⟨v', rfl, q2⟩
    | succ i => exact ih h
def Itk (d : Addr) (o : Obj) (kvs : List (Key × V)) : It := ⟨fun i H => H d = some (.frz o (.dK kvs)) ∧ i < kvs.length, fun i H x H' => H' = H ∧ ∃ p, kvs[i]? = some p ∧ x = kV p.1, fun i H => H d = some (.frz o (.dK kvs)) ∧ i = kvs.length⟩
def Itv (d : Addr) (o : Obj) (kvs : List (Key × V)) : It := ⟨fun i H => H d = some (.frz o (.dK kvs)) ∧ i < kvs.length, fun i H x H' => H' = H ∧ ∃ p, kvs[i]? = some p ∧ x = p.2, fun i H => H d = some (.frz o (.dK kvs)) ∧ i = kvs.length⟩
def Iti (d : Addr) (o : Obj) (kvs : List (Key × V)) : It := ⟨fun i H => H d = some (.frz o (.dK kvs)) ∧ i < kvs.length, fun i H x H' => ∃ p T, kvs[i]? = some p ∧ H T = none ∧ x = .ref T ∧ H' = upd H T (.tup [kV p.1, p.2]), fun i H => H d = some (.frz o (.dK kvs)) ∧ i = kvs.length⟩
theorem fp_ne {X : Cx} {pins : List (Addr × Obj)} {H : Hp} {d it : Addr} {u : HO} (f : FpOk X pins H it) (hd : H d = some u) : d ≠ it := fun z => by
  have := f.1
  rw [← z, hd] at this; cases this
theorem turn_dkeys {P : Program} {w : World} {K : PySem.W.Frag} {tg : Expr} (d it : Addr) (o : Obj) (kvs : List (Key × V)) {es : Array DictEntry} {ep : Nat} (ho : o.data = .dict es ep) : Turn P w K tg (Itk d o kvs) [it] it (fun i h => h.IsKeyIter it d i kvs.length ep) where
  mem := List.mem_singleton.mpr rfl
  obj := fun i h st b hb => by
    cases List.mem_singleton.mp hb
    obtain ⟨q, e, c, dt⟩ := st
    exact ⟨q, e, fun v z => by rw [dt] at z; cases z⟩
  keep := fun i h h' st k => st.at (k it (List.mem_singleton.mpr rfl))
  item := by
    intro X hP hw hK hc i pins s σ H E I hf st hg
    subst hP hw hK
    obtain ⟨hd, il⟩ := hg
    obtain ⟨vs, kv, da⟩ := I.walked hd ho
    have f := hf it (List.mem_singleton.mpr rfl)
    obtain ⟨f0, f1, f2, f3, f4, f5⟩ := id f
    have vl := kv.length
    rw [vl] at st il ⊢
    refine (Walks.dictKeys (knd := mixKind X.prog X.w) (I.ok.hd hc) it d (fp_ne f hd) vs ep).item i s _ _ il ⟨st, da⟩ fun v h' tk ⟨k, x, hx, hk⟩ ⟨st', _⟩ kk => ?_
    obtain ⟨y, hy, _⟩ := kv.at hx
    have I1 : Inv X pins σ H { s with heap := h', toks := tk } := I.turned (fun b u hb e => kk b u (fun z => hb (List.mem_singleton.mp z)) e) f0 f1 f3 f4 f5
    obtain ⟨q, e, c, dt⟩ := id st'
    exact ⟨v, rfl, go_of (s := { s with heap := h', toks := tk }) e c dt (by decide) ⟨kV k, H, I1, kV_rel hk, ⟨rfl, (k, y), hy, rfl⟩, st', fun b hb => (hf b hb).1⟩⟩
  done := by
    intro X hP hw hK hc i pins s σ H E I hf st hg
    subst hP hw hK
    obtain ⟨hd, il⟩ := hg
    obtain ⟨vs, kv, da⟩ := I.walked hd ho
    have f := hf it (List.mem_singleton.mpr rfl)
    obtain ⟨f0, f1, f2, f3, f4, f5⟩ := id f
    have vl := kv.length
    rw [il, vl] at st
    exact (Walks.dictKeys (knd := mixKind X.prog X.w) (I.ok.hd hc) it d (fp_ne f hd) vs ep).done s _ _ ⟨st, da⟩ fun h' tk kk => ⟨rfl, I.turned (fun b u hb e => kk b u (fun z => hb (List.mem_singleton.mp z)) e) f0 f1 f3 f4 f5⟩
  self := fun _ _ _ _ _ st h => wpAny_pyIter_keyiter st h
theorem turn_dvals {P : Program} {w : World} {K : PySem.W.Frag} {tg : Expr} (d it : Addr) (o : Obj) (kvs : List (Key × V)) {es : Array DictEntry} {ep : Nat} (ho : o.data = .dict es ep) : Turn P w K tg (Itv d o kvs) [it] it (fun i h => h.IsValIter it d i kvs.length ep) where
  mem := List.mem_singleton.mpr rfl
  obj := fun i h st b hb => by
    cases List.mem_singleton.mp hb
    obtain ⟨q, e, c, dt⟩ := st
    exact ⟨q, e, fun v z => by rw [dt] at z; cases z⟩
  keep := fun i h h' st k => st.at (k it (List.mem_singleton.mpr rfl))
  item := by
    intro X hP hw hK hc i pins s σ H E I hf st hg
    subst hP hw hK
    obtain ⟨hd, il⟩ := hg
    obtain ⟨vs, kv, da⟩ := I.walked hd ho
    have f := hf it (List.mem_singleton.mpr rfl)
    obtain ⟨f0, f1, f2, f3, f4, f5⟩ := id f
    have vl := kv.length
    rw [vl] at st il ⊢
    refine (Walks.dictValues (knd := mixKind X.prog X.w) (I.ok.hd hc) it d (fp_ne f hd) vs ep).item i s _ _ il ⟨st, da⟩ fun v h' tk ⟨k, hx⟩ ⟨st', _⟩ kk => ?_
    obtain ⟨y, hy, ry⟩ := kv.at hx
    have I1 : Inv X pins σ H { s with heap := h', toks := tk } := I.turned (fun b u hb e => kk b u (fun z => hb (List.mem_singleton.mp z)) e) f0 f1 f3 f4 f5
    obtain ⟨q, e, c, dt⟩ := id st'
    exact ⟨v, rfl, go_of (s := { s with heap := h', toks := tk }) e c dt (by decide) ⟨y, H, I1, ry, ⟨rfl, (k, y), hy, rfl⟩, st', fun b hb => (hf b hb).1⟩⟩
  done := by
    intro X hP hw hK hc i pins s σ H E I hf st hg
    subst hP hw hK
    obtain ⟨hd, il⟩ := hg
    obtain ⟨vs, kv, da⟩ := I.walked hd ho
    have f := hf it (List.mem_singleton.mpr rfl)
    obtain ⟨f0, f1, f2, f3, f4, f5⟩ := id f
    have vl := kv.length
    rw [il, vl] at st
    exact (Walks.dictValues (knd := mixKind X.prog X.w) (I.ok.hd hc) it d (fp_ne f hd) vs ep).done s _ _ ⟨st, da⟩ fun h' tk kk => ⟨rfl, I.turned (fun b u hb e => kk b u (fun z => hb (List.mem_singleton.mp z)) e) f0 f1 f3 f4 f5⟩
  self := fun _ _ _ _ _ st h => wpAny_pyIter_valiter st h
end L2
end
section
set_option maxHeartbeats 4000001
namespace L2
open PySem PySem.Spec PyProof.Rows Own
theorem turn_ditems {P : Program} {w : World} {K : PySem.W.Frag} {els : List Expr} {k1} {p1 : Pos} (d it : Addr) (o : Obj) (kvs : List (Key × V)) {es : Array DictEntry} {ep : Nat} (ho : o.data = .dict es ep) : Turn P w K (.Tuple els k1 p1) (Iti d o kvs) [it] it (fun i h => ∃ a b, IsItemIter h it d i kvs.length ep a b) where
  mem := List.mem_singleton.mpr rfl
  obj := fun i h ⟨a, b, st⟩ c hc => by
    cases List.mem_singleton.mp hc
    exact ⟨_, st, fun v z => by cases z⟩
  keep := fun i h h' ⟨a, b, st⟩ k => ⟨a, b, k it (List.mem_singleton.mpr rfl) _ st⟩
  item := by
    intro X hP hw hK hc i pins s σ H E I hf ⟨a, b, st⟩ ⟨hd, il⟩
    subst hP hw hK
    obtain ⟨vs, kv, da⟩ := I.walked hd ho
    have f := hf it (List.mem_singleton.mpr rfl)
    have vl := kv.length
    rw [vl] at st il ⊢
    obtain ⟨⟨k, u⟩, hx⟩ : ∃ p, vs[i]? = some p := ⟨_, List.getElem?_eq_getElem il⟩
    obtain ⟨y, hy, ry⟩ := kv.at hx
    have nT : s.heap.objs.size ≠ it := Nat.ne_of_gt (Heap.lt_size st)
    refine wpAny_pyNext_items_item st da hx fun key h1 hk ht hT _ kk => ⟨_, rfl, wpAny_letOwnedTupleGo_items ht fun h2 he2 s2 => ?_⟩
    refine ⟨.ref s.heap.objs.size, upd H s.heap.objs.size (.tup [kV k, y]), I.spunN (t' := s.toks) (fp := [it]) (fun c q hm e => ?_) hf (Nat.le_refl _) (pair_ok ((s2.2 _ nT).trans hT) (kV_rel hk) ry), rfl, ⟨(k, y), _, hy, I.fresh, rfl, rfl⟩, ⟨_, _, he2⟩, fun c hm => ?_⟩
    · have ne : c ≠ it := fun z => hm (List.mem_singleton.mpr z)
      exact (s2.2 c ne).trans (kk c q ne e)
    · cases List.mem_singleton.mp hm
      rw [upd_ne nT.symm]; exact f.1
  done := by
    intro X hP hw hK hc i pins s σ H E I hf ⟨a, b, st⟩ ⟨hd, il⟩
    subst hP hw hK
    obtain ⟨vs, kv, da⟩ := I.walked hd ho
    obtain ⟨f0, f1, f2, f3, f4, f5⟩ := hf it (List.mem_singleton.mpr rfl)
    have vl := kv.length
    rw [vl] at st il
    exact wpAny_pyNext_items_end (I.ok.hd hc) st da (List.getElem?_eq_none (by lia)) fun h' kk => ⟨rfl, I.turned (t' := s.toks) (fun c u hb e => kk c u hb e) f0 f1 f3 f4 f5⟩
  self := fun _ _ _ _ _ ⟨_, _, st⟩ h => PySem.W.kcp_self st h
section
variable {X : Cx} {tg : Expr}
def iDict (te : TE) : TI := fun σ H R => te σ H fun x H1 => ∃ d kvs, x = .ref d ∧ H1 d = some (.dK kvs) ∧ ∀ o, R (Itk d o kvs) (upd H1 d (.frz o (.dK kvs)))
theorem pi_dict {l : Expr} {tl : TE} (hl : PE X l tl) : PI X tg l (iDict tl) := by
  intro pins s σ H R I h
  refine thn (hl pins s σ H _ I h) fun v s1 ⟨x, H1, I1, r1, d, kvs, ex, hd, q⟩ => ?_
  subst ex
  cases r1
  obtain ⟨o, es, ep, g, ho, I2⟩ := I1.freeze hd
  obtain ⟨vs, kv, da⟩ := I2.walked upd_same ho
  obtain ⟨_, hs, _⟩ := dk_of I1.hok hd
  refine wpAny_pyIter_dict hs da ?_
  rw [← kv.length]
  refine ⟨s1.heap.objs.size, [s1.heap.objs.size], _, _, _, rfl, I2.kept (t' := s1.toks) fun b u e => Heap.get?_push_of_some _ e, turn_dkeys d _ o kvs ho, ⟨_, Heap.get?_push_size _ rfl, rfl, rfl⟩, fun b hb => ?_, q o⟩
  cases List.mem_singleton.mp hb
  exact I2.fpOk (Nat.le_refl _) (I2.hok.fresh (Nat.le_refl _))
def iDvals (te : TE) : TI := fun σ H R => te σ H fun x H1 => ∃ d kvs, x = .ref d ∧ H1 d = some (.dK kvs) ∧ ∀ o, R (Itv d o kvs) (upd H1 d (.frz o (.dK kvs)))
def iDitems (te : TE) : TI := fun σ H R => te σ H fun x H1 => ∃ d kvs, x = .ref d ∧ H1 d = some (.dK kvs) ∧ ∀ o, R (Iti d o kvs) (upd H1 d (.frz o (.dK kvs)))
theorem pi_dvals {l : Expr} {tl : TE} {apos cpos : Pos} (hl : PE X l tl) (hbase : attributeBase l "values" X.env (eval l X.env) = eval l X.env := by rfl) (hline : (apos.endLine == cpos.line) = true := by rfl) : PI X tg (.Call (.Attribute l "values" apos) [] [] cpos) (iDvals tl) := by
  intro pins s σ H R I h
  refine wpAny_Call_method0_late hbase hline (thn (hl pins s σ H _ I h) fun v s1 ⟨x, H1, I1, r1, d, kvs, ex, hd, q⟩ => ?_)
  subst ex
  cases r1
  obtain ⟨t1, t2, hs⟩ := isD_at I1 (.inl ⟨kvs, .inl hd⟩)
  obtain ⟨o, es, ep, g, ho, I2⟩ := I1.freeze hd
  obtain ⟨vs, kv, da⟩ := I2.walked upd_same ho
  refine ⟨"dict", "dict.values", PySem.F.plainAttrs_dict, PySem.F.slot_dict_values, PySem.F.type_dict_values, t1, t2, Calls.callWith_builtin rfl (PySem.evalArgs_none ?_)⟩
  refine call_meetsIn PySem.F.slot_dict_values t1 PySem.F.entry_dict_values (PySem.F.args_dict_values_1 _) (meets_dict_values (mixKind X.prog X.w) d hs) ⟨⟨vs, da.dictOf⟩, ?_⟩
  have I3 := I2.kept (t' := s1.toks) (h' := s1.heap.push { cls := .type "dict_values", data := .fields #[.ref d] }) fun b u e => Heap.get?_push_of_some _ e
  have da3 := da.push { cls := .type "dict_values", data := .fields #[.ref d] }
  refine wpAny_pyIter_values (s := { s1 with heap := s1.heap.push { cls := .type "dict_values", data := .fields #[.ref d] } }) ⟨_, Heap.get?_push_size _ rfl, rfl, rfl⟩ da3 ?_
  rw [← kv.length]
  refine ⟨_, [_], _, _, _, rfl, I3.kept (t' := s1.toks) fun b u e => Heap.get?_push_of_some _ e, turn_dvals d _ o kvs ho, ⟨_, Heap.get?_push_size _ rfl, rfl, rfl⟩, fun b hb => ?_, q o⟩
  cases List.mem_singleton.mp hb
  exact I3.fpOk (Nat.le_refl _) (I3.hok.fresh (Nat.le_refl _))
theorem pi_ditems {l : Expr} {tl : TE} {apos cpos p1 : Pos} {els : List Expr} {k1} (hl : PE X l tl) (hbase : attributeBase l "items" X.env (eval l X.env) = eval l X.env := by rfl) (hline : (apos.endLine == cpos.line) = true := by rfl) : PI X (.Tuple els k1 p1) (.Call (.Attribute l "items" apos) [] [] cpos) (iDitems tl) := by
  intro pins s σ H R I h
  refine wpAny_Call_method0_late hbase hline (thn (hl pins s σ H _ I h) fun v s1 ⟨x, H1, I1, r1, d, kvs, ex, hd, q⟩ => ?_)
  subst ex
  cases r1
  obtain ⟨t1, t2, hs⟩ := isD_at I1 (.inl ⟨kvs, .inl hd⟩)
  obtain ⟨o, es, ep, g, ho, I2⟩ := I1.freeze hd
  obtain ⟨vs, kv, da⟩ := I2.walked upd_same ho
  refine ⟨"dict", "dict.items", PySem.F.plainAttrs_dict, PySem.F.slot_dict_items, PySem.F.type_dict_items, t1, t2, Calls.callWith_builtin rfl (PySem.evalArgs_none ?_)⟩
  refine call_meetsIn PySem.F.slot_dict_items t1 PySem.F.entry_dict_items (PySem.F.args_dict_items_1 _) (meets_dict_items (mixKind X.prog X.w) d hs) ⟨⟨vs, da.dictOf⟩, ?_⟩
  have I3 := I2.kept (t' := s1.toks) (h' := s1.heap.push { cls := .type "dict_items", data := .fields #[.ref d] }) fun b u e => Heap.get?_push_of_some _ e
  have da3 := da.push { cls := .type "dict_items", data := .fields #[.ref d] }
  refine wpAny_pyIter_items (s := { s1 with heap := s1.heap.push { cls := .type "dict_items", data := .fields #[.ref d] } }) ⟨_, Heap.get?_push_size _ rfl, rfl, rfl⟩ da3 ?_
  rw [← kv.length]
  refine ⟨_, [_], _, _, _, rfl, I3.kept (t' := s1.toks) fun b u e => Heap.get?_push_of_some _ e, turn_ditems d _ o kvs ho, ⟨_, _, Heap.get?_push_size _ rfl⟩, fun b hb => ?_, q o⟩
  cases List.mem_singleton.mp hb
  exact I3.fpOk (Nat.le_refl _) (I3.hok.fresh (Nat.le_refl _))
def tThaw (t : TE) : TE := fun σ H Q => t σ H fun x H1 => ∃ d o kvs kvs', H d = some (.dK kvs') ∧ H1 d = some (.frz o (.dK kvs)) ∧ Q x (upd H1 d (.dK kvs))
theorem pe_thaw {e : Expr} {t : TE} (h : PE X e t) : PE X e (tThaw t) := by
  intro pins s σ H Q I hw
  refine thn (h pins s σ H _ I hw) fun v s1 ⟨x, H1, I1, r1, d, o, kvs, kvs', hd, hz, q⟩ => ?_
  exact ⟨x, _, I1.thaw hz (I.melted hd), r1, q⟩
theorem op_neDE (hu : X.A.units < cLine) : OpR X (compareOp .NotEq) (fun x y H Q => ∃ a b kvs, x = .ref a ∧ y = .ref b ∧ H a = some (.dK kvs) ∧ H b = some (.dK []) ∧ Q (.bl (!kvs.isEmpty)) H) := by
  intro pins s σ H x y v u Q I rx ry h
  obtain ⟨a, b, kvs, rfl, rfl, ha, hb, q⟩ := h
  cases rx; cases ry
  obtain ⟨_, h1, vs, kv, d1⟩ := dk_of I.hok ha
  obtain ⟨_, h2, ws, kw, d2⟩ := dk_of I.hok hb
  cases kw
  have vl := kv.length
  cases kvs with
  | nil =>
    cases vs with
    | nil => exact PySem.W.keq_ne (r := true) h1 h2 d1 d2 hu (fun _ => .nil) ⟨.bl _, H, I, rfl, q⟩
    | cons p r => cases vl
  | cons p r =>
    cases vs with
    | nil => cases vl
    | cons p' r' => exact PySem.W.keq_ne (r := false) h1 h2 d1 d2 hu (fun z => by cases z) ⟨.bl _, H, I, rfl, q⟩
end
theorem lc_dk {d : Addr} {o : Obj} {kvs : List (Key × V)} {g : TG} {tt : TT} {te : TE} {l : Addr} {σ : St} {H : Hp} {Q : VK} (Pv : Nat → List V → St → Hp → Prop) (h0 : Pv 0 [] σ H) (hl : ∀ i acc σ H, Pv i acc σ H → H l = some (.lst acc) ∧ H d = some (.frz o (.dK kvs)))
    (hs : ∀ (i : Nat) acc σ H p, kvs[i]? = some p → Pv i acc σ H → g (kV p.1) σ H fun σ3 H3 => tt σ3 H3 fun b H4 => if b = true then te σ3 H4 fun z H5 => H5 l = some (.lst acc) ∧ acc.length < sizeLine ∧ Nx kvs.length i (Pv (i + 1) (acc ++ [z]) σ3 (upd H5 l (.lst (acc ++ [z])))) else Nx kvs.length i (Pv (i + 1) acc σ3 H4))
    (hd : ∀ acc σ H, Pv kvs.length acc σ H → Q (.ref l) H) : ∃ W : Nat → Nat → List V → St → Hp → Prop, (∃ m, W 0 m [] σ H) ∧ LCW (Itk d o kvs) g tt te l Q W := by
  refine ⟨fun i m acc σ H => m = kvs.length - i ∧ i ≤ kvs.length ∧ Pv i acc σ H, ⟨_, rfl, Nat.zero_le _, h0⟩, ?_⟩
  rintro i m acc σ H ⟨rfl, hi, pv⟩
  obtain ⟨q0, q1⟩ := hl i acc σ H pv
  refine ⟨q0, ?_⟩
  by_cases lt : i < kvs.length
  · refine .inr ⟨⟨q1, lt⟩, fun x H2 ⟨e, p, hp, ex⟩ => ?_⟩
    subst e ex
    exact hs i acc σ _ p hp pv
  · have ei : i = kvs.length := by lia
    subst ei
    exact .inl ⟨⟨q1, rfl⟩, hd acc σ H pv⟩
theorem lc_dv {d : Addr} {o : Obj} {kvs : List (Key × V)} {g : TG} {te : TE} {l : Addr} {σ : St} {H : Hp} {Q : VK} (Pv : Nat → List V → St → Hp → Prop) (h0 : Pv 0 [] σ H) (hl : ∀ i acc σ H, Pv i acc σ H → H l = some (.lst acc) ∧ H d = some (.frz o (.dK kvs)))
    (hs : ∀ (i : Nat) acc σ H p, kvs[i]? = some p → Pv i acc σ H → g p.2 σ H fun σ3 H3 => te σ3 H3 fun z H5 => H5 l = some (.lst acc) ∧ acc.length < sizeLine ∧ Nx kvs.length i (Pv (i + 1) (acc ++ [z]) σ3 (upd H5 l (.lst (acc ++ [z])))))
    (hd : ∀ acc σ H, Pv kvs.length acc σ H → Q (.ref l) H) : ∃ W : Nat → Nat → List V → St → Hp → Prop, (∃ m, W 0 m [] σ H) ∧ LCW (Itv d o kvs) g tYes te l Q W := by
  refine ⟨fun i m acc σ H => m = kvs.length - i ∧ i ≤ kvs.length ∧ Pv i acc σ H, ⟨_, rfl, Nat.zero_le _, h0⟩, ?_⟩
  rintro i m acc σ H ⟨rfl, hi, pv⟩
  obtain ⟨q0, q1⟩ := hl i acc σ H pv
  refine ⟨q0, ?_⟩
  by_cases lt : i < kvs.length
  · refine .inr ⟨⟨q1, lt⟩, fun x H2 ⟨e, p, hp, ex⟩ => ?_⟩
    subst e ex
    exact hs i acc σ _ p hp pv
  · have ei : i = kvs.length := by lia
    subst ei
    exact .inl ⟨⟨q1, rfl⟩, hd acc σ H pv⟩
theorem lc_di {d : Addr} {o : Obj} {kvs : List (Key × V)} {g : TG} {te : TE} {l : Addr} {σ : St} {H : Hp} {Q : VK} (Pv : Nat → List V → St → Hp → Prop) (h0 : Pv 0 [] σ H) (hl : ∀ i acc σ H, Pv i acc σ H → H l = some (.lst acc) ∧ H d = some (.frz o (.dK kvs)))
    (hs : ∀ (i : Nat) acc σ H p T, kvs[i]? = some p → H T = none → Pv i acc σ H → g (.ref T) σ (upd H T (.tup [kV p.1, p.2])) fun σ3 H3 => te σ3 H3 fun z H5 => H5 l = some (.lst acc) ∧ acc.length < sizeLine ∧ Nx kvs.length i (Pv (i + 1) (acc ++ [z]) σ3 (upd H5 l (.lst (acc ++ [z])))))
    (hd : ∀ acc σ H, Pv kvs.length acc σ H → Q (.ref l) H) : ∃ W : Nat → Nat → List V → St → Hp → Prop, (∃ m, W 0 m [] σ H) ∧ LCW (Iti d o kvs) g tYes te l Q W := by
  refine ⟨fun i m acc σ H => m = kvs.length - i ∧ i ≤ kvs.length ∧ Pv i acc σ H, ⟨_, rfl, Nat.zero_le _, h0⟩, ?_⟩
  rintro i m acc σ H ⟨rfl, hi, pv⟩
  obtain ⟨q0, q1⟩ := hl i acc σ H pv
  refine ⟨q0, ?_⟩
  by_cases lt : i < kvs.length
  · refine .inr ⟨⟨q1, lt⟩, fun x H2 ⟨p, T, hp, hT, ex, e⟩ => ?_⟩
    subst e ex
    exact hs i acc σ _ p T hp hT pv
  · have ei : i = kvs.length := by lia
    subst ei
    exact .inl ⟨⟨q1, rfl⟩, hd acc σ H pv⟩
end L2
end
section
set_option maxHeartbeats 4000001
namespace L2
open PySem PySem.Spec PyProof.Rows Own
section
variable {prog : Program} {w : World} {A : Around} {R : Result → Shared → Prop} {I S : Addr} {fp wr : List Addr} {n : Nat} {P : Nat → Value → Prop} {St : Nat → Heap → Prop}
theorem minG_loop (W : Walks prog w A.in1 I fp wr n P St) (away : S ∉ fp) (h0 : Heap) (Bst : Nat → Value → Prop)
    (more : ∀ j v vb, 0 < j → P j v → Bst j vb → ∃ c : Bool, Bst (j + 1) (if c = true then v else vb) ∧ ∀ (s : Shared) (Q : Value → Shared → Prop) (E : Value → Shared → Prop), (∀ b o, b ∉ wr → b ≠ S → h0.get? b = some o → s.heap.get? b = some o) → Q (.bool c) s → wpAny (model prog w) A.in1 (richCompare .Lt v vb) Q E s) :
    ∀ (m j : Nat) (s : Shared) (c : Nat) (vb : Value), j + m = n → 0 < j → Bst j vb → St j s.heap → s.heap.get? S = some { cls := .type "list", dict := none, data := .seq #[vb, vb] c, slots := #[] } → (∀ b o, b ∉ wr → b ≠ S → h0.get? b = some o → s.heap.get? b = some o) →
      (∀ u h' tk, Bst n u → (∀ b o, b ∉ wr → b ≠ S → s.heap.get? b = some o → h'.get? b = some o) → R (.ok (.ret u)) { s with heap := h', toks := tk }) → codeAny (model prog w) A (.builtin "min.loop" ⟨[.ref I, .none, .ref S], []⟩) R s := by
  have out : S ∉ wr := fun z => away (W.sub _ z)
  have nm : (toString "min" ++ toString ".loop" : String) = "min.loop" := by decide
  intro m
  induction m with
  | zero =>
    intro j s c vb jm jp bs st hs old k
    have ej : j = n := by lia
    subst ej
    refine codeAny_builtin F.entry_min_loop (by
      refine Around.under_plainId F.plain_min_loop _ ▸ (show wpAny _ A.in1 (seqItems? (.ref S) >>= _) _ _ _ from ?_)
      refine wpAny_bind (wpAny_seqItems hs rfl (show wpAny _ A.in1 (tryCatch (pyNext (.ref I)) _ >>= _) _ _ _ from wpAny_bind (wpAny_tryCatch (W.done s _ _ st fun h1 tk1 keep => ?_))))
      have hs1 := keep S _ out hs
      show wpAny _ A.in1 (updateSeq S (fun _ => #[]) >>= _) _ _ _; exact wpAny_bind (wpAny_updateSeq hs1 rfl (wpAny_bind (wpAny_letGo (wpAny_pure (k _ _ tk1 bs fun b o hb bS e => (Heap.get?_update_other _ _ (Ne.symm bS)).trans (keep b o hb e)))))))
  | succ m ih =>
    intro j s c vb jm jp bs st hs old k
    refine codeAny_builtin F.entry_min_loop (by
      refine Around.under_plainId F.plain_min_loop _ ▸ (show wpAny _ A.in1 (seqItems? (.ref S) >>= _) _ _ _ from ?_)
      refine wpAny_bind (wpAny_seqItems hs rfl (show wpAny _ A.in1 (tryCatch (pyNext (.ref I)) _ >>= _) _ _ _ from wpAny_bind (wpAny_tryCatch (W.item j s _ _ (by lia) st fun v h1 tk1 pv st1 keep => ?_))))
      have hs1 := keep S _ out hs
      obtain ⟨c', bs', ask⟩ := more j v vb jp pv bs
      show wpAny _ A.in1 (tryCatch (holding [v, v] (richCompare .Lt v vb >>= _)) _ >>= _) _ _ _; refine wpAny_bind (wpAny_tryCatch (wpAny_holding (wpAny_bind (ask _ _ _ (fun b o hb bS e => keep b o hb (old b o hb bS e)) (wpAny_bind (wpAny_holding (wpAny_truthy_bool (wpAny_bind (wpAny_letGo (wpAny_pure ?_))))))))))
      cases c' with
      | false =>
        rw [if_neg Bool.false_ne_true] at bs'
        rw [if_neg Bool.false_ne_true]
        refine wpAny_bind (wpAny_letGo ?_)
        rw [nm]
        exact wpAny_pure ⟨plainId_quiet F.plain_min_loop _, ih (j + 1) _ _ vb (by lia) (by lia) bs' st1 hs1 (fun b o hb bS e => keep b o hb (old b o hb bS e)) fun u h2 tk2 bu keep2 => k u h2 tk2 bu fun b o hb bS e => keep2 b o hb bS (keep b o hb e)⟩
      | true =>
        rw [if_pos rfl] at bs'
        rw [if_pos rfl]
        refine wpAny_bind (wpAny_updateSeq hs1 rfl (wpAny_bind (wpAny_letGo ?_)))
        rw [nm]
        have up : ∀ b o, b ∉ wr → b ≠ S → s.heap.get? b = some o → (h1.update S (Obj.mapSeq fun _ => #[v, v])).get? b = some o := fun b o hb bS e => (Heap.get?_update_other _ _ (Ne.symm bS)).trans (keep b o hb e)
        exact wpAny_pure ⟨plainId_quiet F.plain_min_loop _, ih (j + 1) _ _ v (by lia) (by lia) bs' (W.frame _ _ _ st1 fun b hb o e => (Heap.get?_update_other _ _ (fun z => away (by rw [z]; exact hb))).trans e) (Heap.get?_update_self _ hs1 rfl) (fun b o hb bS e => up b o hb bS (old b o hb bS e)) fun u h2 tk2 bu keep2 => k u h2 tk2 bu fun b o hb bS e => keep2 b o hb bS (up b o hb bS e)⟩)
end
section
variable {prog : Program} {w : World} {A : Around} {E : Value → Shared → Prop} {s : Shared}
theorem minG_walk {x : Value} {Q : Value → Shared → Prop}
    (h : wpAny (model prog w) A.in1 (pyIter x) (fun it s2 => ∃ (I : Addr) (fp wr : List Addr) (n : Nat) (P : Nat → Value → Prop) (St : Nat → Heap → Prop), it = .ref I ∧ Walks prog w A.in1 I fp wr n P St ∧ St 0 s2.heap ∧ (∀ b ∈ fp, b < s2.heap.objs.size) ∧ 0 < n ∧
      ∃ Bst : Nat → Value → Prop, (∀ v, P 0 v → Bst 1 v) ∧ (∀ j v vb, 0 < j → P j v → Bst j vb → ∃ c : Bool, Bst (j + 1) (if c = true then v else vb) ∧ ∀ (s : Shared) (Q : Value → Shared → Prop) (E : Value → Shared → Prop), (∀ b o, b ∉ wr → s2.heap.get? b = some o → s.heap.get? b = some o) → Q (.bool c) s → wpAny (model prog w) A.in1 (richCompare .Lt v vb) Q E s) ∧
      ∀ u h' tk, Bst n u → (∀ b o, b ∉ wr → s2.heap.get? b = some o → h'.get? b = some o) → Q u { s2 with heap := h', toks := tk }) E s) : wpAny (model prog w) A (call (.builtin "min") [x]) Q E s := by
  have nm : (toString "min" ++ toString ".loop" : String) = "min.loop" := by decide
  refine call_function_tree F.kind_min F.plain_min F.entry_min (F.args_min1 _) ?_; show wpAny _ A.in1 (Builtin.Builtins.bindParams "min" ["key", "default"] 0 ⟨[], []⟩ >>= _) _ _ s
  refine wpAny_bind (wpAny_of_eq (show Builtin.Builtins.bindParams "min" ["key", "default"] 0 ⟨[], []⟩ = pure [none, none] from rfl) (wpAny_bind (wpAny_pure (wpAny_bind (wpAny_mono h (fun it s2 z => ?_) fun _ _ e => e)))))
  obtain ⟨I, fp, wr, n, P, St, rfl, W, st, low, pos, Bst, first, more, k⟩ := z
  have away : s2.heap.objs.size ∉ fp := fun z => Nat.lt_irrefl _ (low _ z)
  have out : s2.heap.objs.size ∉ wr := fun z => away (W.sub _ z)
  refine wpAny_bind (wpAny_newObj_type ?_); rw [nm]
  refine wpAny_pure ⟨plainId_quiet F.plain_min_loop _, codeAny_builtin F.entry_min_loop ?_⟩
  have new : (s2.heap.push { cls := .type "list", data := .seq #[] }).get? s2.heap.objs.size = some { cls := .type "list", dict := none, data := .seq #[] 0, slots := #[] } := Heap.get?_push_size _ rfl
  have st' : St 0 (s2.heap.push { cls := .type "list", data := .seq #[] }) := W.frame _ _ _ st fun b _ o e => Heap.get?_push_of_some _ e
  refine Around.under_plainId F.plain_min_loop _ ▸ (show wpAny _ A.in1 (seqItems? (.ref s2.heap.objs.size) >>= _) _ _ _ from ?_)
  refine wpAny_bind (wpAny_seqItems new rfl (show wpAny _ A.in1 (tryCatch (pyNext (.ref I)) _ >>= _) _ _ _ from wpAny_bind (wpAny_tryCatch (W.item 0 _ _ _ pos st' fun v h1 tk1 pv st1 keep => ?_))))
  have b1 := first v pv
  have new1 := keep _ _ out new
  show wpAny _ A.in1 (updateSeq s2.heap.objs.size (fun _ => #[v, v]) >>= _) _ _ _
  refine wpAny_bind (wpAny_updateSeq new1 rfl ?_)
  rw [nm]
  have up : ∀ b o, b ∉ wr → b ≠ s2.heap.objs.size → s2.heap.get? b = some o → (h1.update s2.heap.objs.size (Obj.mapSeq fun _ => #[v, v])).get? b = some o := fun b o hb bS e => (Heap.get?_update_other _ _ (Ne.symm bS)).trans (keep b o hb (Heap.get?_push_of_some _ e))
  refine wpAny_pure ⟨plainId_quiet F.plain_min_loop _, minG_loop W away s2.heap Bst (fun j u vb jp pu bb => ?_) (n - 1) 1 _ _ v (by lia) (by lia) b1 (W.frame _ _ _ st1 fun b hb o e => (Heap.get?_update_other _ _ (fun z => away (by rw [z]; exact hb))).trans e) (Heap.get?_update_self _ new1 rfl) up fun u h2 tk2 bu keep2 => ?_⟩
  · obtain ⟨c, b2, ask⟩ := more j u vb jp pu bb
    exact ⟨c, b2, fun s' Q' E' old q => ask s' Q' E' (fun b o hb e => old b o hb (Nat.ne_of_lt (Heap.lt_size e)) e) q⟩
  · exact k u h2 tk2 bu fun b o hb e => keep2 b o hb (Nat.ne_of_lt (Heap.lt_size e)) (up b o hb (Nat.ne_of_lt (Heap.lt_size e)) e)
end
section
variable {X : Cx}
def Pr2 (H : Hp) (x : V) (p q : Int) : Prop := ∃ t, x = .ref t ∧ H t = some (.tup [.int p, .int q])
def le2 (p q p' q' : Int) : Prop := p < p' ∨ p = p' ∧ q ≤ q'
theorem pr2_vals {a b : Int} {bts : List Value} (rb : Vals [.int a, .int b] bts) : ∃ t1 t2, bts = [.int a t1, .int b t2] := by
  cases rb with
  | cons r1 rb => cases rb with
    | cons r2 rb =>
      cases rb
      obtain ⟨t1, rfl⟩ := r1
      obtain ⟨t2, rfl⟩ := r2
      exact ⟨t1, t2, rfl⟩
theorem call_minP (hc : X.calm = true) (hu : X.A.units + 64 < cLine) : CallR X (.builtin "min") (fun vs H Q => ∃ a xs, vs = [.ref a] ∧ SqL X.K H a xs ∧ 0 < xs.length ∧ (∀ x ∈ xs, ∃ p q, Pr2 H x p q) ∧ (∀ (i j : Nat) x y p q, i < j → xs[i]? = some x → xs[j]? = some y → Pr2 H x p q → ¬ Pr2 H y p q) ∧
    ∀ x p q, x ∈ xs → Pr2 H x p q → (∀ y ∈ xs, ∀ p' q', Pr2 H y p' q' → le2 p q p' q') → Q x H) := by
  rintro pins s σ H vs us Q I rv ⟨a, xs, rfl, hq, xp, hxs, dst, k⟩
  obtain ⟨u, rfl, ru⟩ := rv.one
  cases ru
  obtain ⟨its, rr, pp⟩ := I.sq (b := true) hq
  obtain ⟨o, n, eo, _⟩ := pp.ob
  have hl : its.length = xs.length := rr.length.symm
  refine minG_walk (iter_of pp ⟨s.heap.objs.size, [s.heap.objs.size, a], [s.heap.objs.size], its.toArray.size, (fun i v => its.toArray[i]? = some v), _, rfl, walkB (show X.A.in1.handled = none from I.ok.hd hc) true _ a (Nat.ne_of_lt (Heap.lt_size eo)) its.toArray, ⟨⟨_, Heap.get?_push_size _ rfl, rfl, rfl⟩, pp.mv fun o e => Heap.get?_push_of_some _ e⟩, fun c hm => ?_, by rw [List.size_toArray]; lia, (fun j v => ∃ (i : Nat) (x : V) (p q : Int), (i < j ∧ xs[i]? = some x) ∧ RelV x v ∧ Pr2 H x p q ∧ ∀ (i : Nat) y p' q', i < j → xs[i]? = some y → Pr2 H y p' q' → le2 p q p' q'), fun v hv => ?_, ?_, ?_⟩)
  · show c < (s.heap.push _).objs.size
    rw [Heap.size_push]
    rcases List.mem_cons.mp hm with z | z
    · exact z ▸ Nat.lt_succ_self _
    · exact List.mem_singleton.mp z ▸ Nat.lt_succ_of_lt (Heap.lt_size eo)
  · have hx : xs[0]? = some xs[0] := List.getElem?_eq_getElem xp
    obtain ⟨u', e', ru⟩ := rr.get hx
    have hv' : its[0]? = some v := by simpa using hv
    rw [hv'] at e'
    cases e'
    obtain ⟨p, q, pr⟩ := hxs _ (List.getElem_mem xp)
    refine ⟨0, _, p, q, ⟨Nat.lt_succ_self _, hx⟩, ru, pr, fun i y p' q' il hy pr' => ?_⟩
    obtain rfl : i = 0 := by lia
    rw [hx] at hy
    obtain rfl := Option.some.inj hy
    obtain ⟨t, e1, h1⟩ := pr
    obtain ⟨t', e2, h2⟩ := pr'
    rw [e1] at e2; cases e2
    rw [h1] at h2; cases h2
    exact .inr ⟨rfl, Int.le_refl _⟩
  · intro j v vb jp hv ⟨i0, x, p, q, ⟨i0j, xi⟩, rx, ⟨t, et, ht⟩, least⟩
    have hv' : its[j]? = some v := by simpa using hv
    have jl : j < xs.length := by
      have := (List.getElem?_eq_some_iff.mp hv').1
      lia
    have hy : xs[j]? = some xs[j] := List.getElem?_eq_getElem jl
    obtain ⟨u', e', ru⟩ := rr.get hy
    rw [hv'] at e'
    cases e'
    obtain ⟨p', q', ⟨t', et', ht'⟩⟩ := hxs _ (List.getElem_mem jl)
    rw [et'] at ru
    cases ru
    rw [et] at rx
    cases rx
    obtain ⟨bts, rb, pb, _⟩ := I.tuple (SqT.of ht)
    obtain ⟨cts, rc, pc, _⟩ := I.tuple (SqT.of ht')
    obtain ⟨k1, k2, rfl⟩ := pr2_vals rb
    obtain ⟨m1, m2, rfl⟩ := pr2_vals rc
    have hu1 : X.A.in1.units < cLine := by show X.A.units + 1 < cLine; lia
    have key : ∀ (c : Bool), (c = true ↔ p' < p ∨ p' = p ∧ q' < q) → (∀ (s' : Shared) (Q' : Value → Shared → Prop) (E' : Value → Shared → Prop), (∀ b o, b ∉ [s.heap.objs.size] → (s.heap.push { cls := .type (cN true), data := .fields #[.ref a, .int 0 0] }).get? b = some o → s'.heap.get? b = some o) → Q' (.bool c) s' → wpAny (model X.prog X.w) X.A.in1 (richCompare .Lt (.ref t') (.ref t)) Q' E' s') := by
      intro c hcc s' Q' E' old q''
      have mv : ∀ {c : Addr} {zs : Array Value}, IsTup s.heap c zs → IsTup s'.heap c zs := fun {c zs} z => by
        obtain ⟨o', e1, e2⟩ := z
        refine ⟨o', old c o' (fun z => ?_) (Heap.get?_push_of_some _ e1), e2⟩
        exact Nat.ne_of_lt (Heap.lt_size e1) (List.mem_singleton.mp z)
      have T1 := mv pc
      have T2 := mv pb
      have ne : ∀ {A' : Around} (i j : Int) (t1 t2 : Tok), i ≠ j → SeqAt.EqAt A' s' (.int i t1) (.int j t2) false := fun {A'} i j t1 t2 h => by
        have := eqAt_V (A := A') (s := s') (x := .int j) (y := .int i) ⟨t1, rfl⟩ ⟨t2, rfl⟩ rfl rfl
        have e : eqV (.int i) (.int j) = false := by simp [eqV, h]
        rwa [e] at this
      have eq : ∀ {A' : Around} (i : Int) (t1 t2 : Tok), SeqAt.EqAt A' s' (.int i t1) (.int i t2) true := fun {A'} i t1 t2 => eqAt_flat (x := .int i) rfl ⟨t1, rfl⟩ ⟨t2, rfl⟩
      have lt : ∀ {A' : Around} (i j : Int) (t1 t2 : Tok) (c : Bool), (c = true ↔ i < j) → LtAt A' s' (.int i t1) (.int j t2) c := fun {A'} i j t1 t2 c h => by
        have := LtAt.ints (A := A') (s := s') i j t1 t2
        rwa [show decide (i < j) = c from by rw [Bool.eq_iff_iff, decide_eq_true_iff]; exact h.symm] at this
      by_cases e1 : p' = p
      · subst e1
        by_cases e2 : q' = q
        · subst e2
          exact absurd ⟨t', et', ht'⟩ (dst i0 j _ _ _ _ i0j xi hy ⟨t, et, ht⟩)
        · refine LtAt.tuples (k := 1) T1 T2 hu1 (by show 1 < 2; decide) (by show 1 < 2; decide) (fun j _ _ h => ?_) (ne _ _ _ _ e2) (lt _ _ _ _ c ?_) X.prog X.w _ _ q''
          · have j0 : j = 0 := by lia
            subst j0
            exact eq _ _ _
          · rw [hcc]; lia
      · refine LtAt.tuples (k := 0) T1 T2 hu1 (by show 0 < 2; decide) (by show 0 < 2; decide) (fun j _ _ h => absurd h (Nat.not_lt_zero _)) (ne _ _ _ _ e1) (lt _ _ _ _ c ?_) X.prog X.w _ _ q''
        rw [hcc]; lia
    refine ⟨decide (p' < p ∨ p' = p ∧ q' < q), ?_, key _ (by rw [decide_eq_true_iff])⟩
    by_cases c : p' < p ∨ p' = p ∧ q' < q
    · rw [decide_eq_true c, if_pos rfl]
      refine ⟨j, _, p', q', ⟨Nat.lt_succ_self _, hy⟩, et' ▸ rfl, ⟨t', et', ht'⟩, fun i y p2 q2 il hy2 pr2 => ?_⟩
      by_cases ij : i < j
      · have := least i y p2 q2 ij hy2 pr2
        unfold le2 at this ⊢
        lia
      · have ei : i = j := by lia
        subst ei
        rw [hy] at hy2
        obtain ⟨t2, et2, ht2⟩ := pr2
        rw [← Option.some.inj hy2, et'] at et2
        cases et2
        rw [ht'] at ht2
        cases ht2
        exact .inr ⟨rfl, Int.le_refl _⟩
    · rw [decide_eq_false c, if_neg Bool.false_ne_true]
      refine ⟨i0, x, p, q, ⟨by lia, xi⟩, et ▸ rfl, ⟨t, et, ht⟩, fun i y p2 q2 il hy2 pr2 => ?_⟩
      by_cases ij : i < j
      · exact least i y p2 q2 ij hy2 pr2
      · have ei : i = j := by lia
        subst ei
        rw [hy] at hy2
        obtain ⟨t2, et2, ht2⟩ := pr2
        rw [← Option.some.inj hy2, et'] at et2
        cases et2
        rw [ht'] at ht2
        cases ht2
        unfold le2
        lia
  · intro u h' tk ⟨i0, x, p, q, ⟨i0j, xi⟩, rx, pr, least⟩ hk
    refine ⟨x, H, I.kept (t' := tk) fun c o e => hk c o (fun z => Nat.ne_of_lt (Heap.lt_size e) (List.mem_singleton.mp z)) (Heap.get?_push_of_some _ e), rx, k x p q (List.mem_of_getElem? xi) pr fun y hy p' q' pr' => ?_⟩
    obtain ⟨i, il, ei⟩ := List.mem_iff_getElem.mp hy
    exact least i y p' q' (by rw [List.size_toArray]; lia) (by rw [List.getElem?_eq_getElem il, ei]) pr'
end
end L2
end
section
set_option maxHeartbeats 4000001
namespace Bn
open PySem L2 Own
structure PSt where
  S : Tst
  t : Nat → Int
  told : Nat → Option (Nat × Nat × Int)
def put1 {α : Type} (f : Nat → α) (b : Nat) (x : α) : Nat → α := fun c => if c = b then x else f c
theorem put1_same {α : Type} {f : Nat → α} {b : Nat} {x : α} : put1 f b x b = x := if_pos rfl
theorem put1_ne {α : Type} {f : Nat → α} {b c : Nat} {x : α} (h : c ≠ b) : put1 f b x c = f c := if_neg h
def Adv (N : Nt) (pc : Nat → Int) (a : PSt) (b : Nat) (z : PSt) : Prop := ∃ lane k, a.S.spots[b]? = some (some (lane, k)) ∧
  ((k = N.forks.length ∧ z = ⟨outT N a.S b lane, a.t, put1 a.told b (some (endN N lane + N.lanes * a.S.came.getD (endN N lane) 0, endN N lane, a.t b))⟩) ∨
   (k < N.forks.length ∧ ∃ k', IsNext N.forks (onT N a.S b k) (k + 1) k' ∧ z = ⟨goT N a.S b k k', put1 a.t b (a.t b + pc b), a.told⟩))
def Least (a : PSt) (b : Nat) : Prop := b ∈ wayL a.S.spots ∧ ∀ c ∈ wayL a.S.spots, le2 (a.t b) b (a.t c) c
inductive Chain (N : Nt) (pc : Nat → Int) : PSt → PSt → Prop
  | nil (a : PSt) : Chain N pc a a
  | cons {a b z : PSt} {x : Nat} : Least a x → Adv N pc a x b → Chain N pc b z → Chain N pc a z
theorem Chain.snoc {N : Nt} {pc : Nat → Int} {a b z : PSt} {x : Nat} (c : Chain N pc a b) (l : Least b x) (d : Adv N pc b x z) : Chain N pc a z := by
  induction c with
  | nil a => exact .cons l d (.nil _)
  | cons l' d' _ ih => exact .cons l' d' (ih l d)
theorem Least.one {a : PSt} {b c : Nat} (h : Least a b) (g : Least a c) : b = c := by
  have h1 := h.2 c g.1
  have h2 := g.2 b h.1
  unfold le2 at h1 h2
  lia
theorem Adv.one {N : Nt} {pc : Nat → Int} {a y z : PSt} {b : Nat} (h : Adv N pc a b y) (g : Adv N pc a b z) : y = z := by
  obtain ⟨lane, k, e, h⟩ := h
  obtain ⟨lane', k', e', g⟩ := g
  rw [e] at e'
  cases e'
  rcases h with ⟨h1, h2⟩ | ⟨h1, q, hq, h2⟩ <;> rcases g with ⟨g1, g2⟩ | ⟨g1, r, gr, g2⟩
  · rw [h2, g2]
  · lia
  · lia
  · rw [hq.one gr] at h2
    rw [h2, g2]
theorem Chain.one {N : Nt} {pc : Nat → Int} {a y z : PSt} (c : Chain N pc a y) (d : Chain N pc a z) (hy : wayL y.S.spots = []) (hz : wayL z.S.spots = []) : y = z := by
  induction c with
  | nil a =>
    cases d with
    | nil => rfl
    | cons l _ _ => have := l.1; rw [hy] at this; exact (List.not_mem_nil this).elim
  | cons l e _ ih =>
    cases d with
    | nil => have := l.1; rw [hz] at this; exact (List.not_mem_nil this).elim
    | cons l' e' d' =>
      have eb := l.one l'
      subst eb
      have ez := e.one e'
      subst ez
      exact ih d' hy
structure PIn (N : Nt) (n : Nat) (a : PSt) : Prop where
  os : OkS N a.S
  fi : Fine N a.S
  ln : a.S.spots.length = n
  tl : ∀ b, b < n → (a.S.spots[b]? = some none ↔ a.told b ≠ none)
theorem PIn.way {N : Nt} {n : Nat} {a : PSt} (h : PIn N n a) {b : Nat} (hb : b ∈ wayL a.S.spots) : b < n ∧ ∃ lane k, a.S.spots[b]? = some (some (lane, k)) ∧ lane < N.lanes ∧ k ≤ N.forks.length := by
  obtain ⟨⟨lane, k⟩, e⟩ := way_mem.mp hb
  have := (List.getElem?_eq_some_iff.mp e).1
  exact ⟨by rw [← h.ln]; exact this, lane, k, e, h.os.sp lane k (List.mem_of_getElem? e)⟩
theorem PIn.few {N : Nt} {n : Nat} {a : PSt} (h : PIn N n a) : a.S.nms.length ≤ n ∧ ∀ e, e < N.lanes → a.S.came.getD e 0 ≤ n := by
  have c := h.fi.cnt
  have l := h.ln
  refine ⟨by lia, fun e he => ?_⟩
  have q := congrArg List.length (h.fi.num e he)
  rw [List.length_map, List.length_range] at q
  have := List.length_filter_le (fun n => decide (n % N.lanes = e)) a.S.nms
  lia
theorem PIn.adv {N : Nt} {n : Nat} {pc : Nat → Int} {a z : PSt} {b : Nat} (ok : N.Ok) (h : PIn N n a) (d : Adv N pc a b z) : PIn N n z ∧ pot N.forks.length z.S.spots + 1 ≤ pot N.forks.length a.S.spots := by
  obtain ⟨lane, k, e, d⟩ := d
  have bl := (List.getElem?_eq_some_iff.mp e).1
  have bn : b < n := by rw [← h.ln]; exact bl
  obtain ⟨hl, hk⟩ := h.os.sp lane k (List.mem_of_getElem? e)
  rcases d with ⟨h1, rfl⟩ | ⟨h1, k', nk, rfl⟩
  · refine ⟨⟨h.os.out _ _, (Fine.out ok h.os h.fi e hl).1, by show (a.S.spots.set b none).length = n; rw [List.length_set]; exact h.ln, fun c cn => ?_⟩, ?_⟩
    · show (a.S.spots.set b none)[c]? = some none ↔ put1 a.told b _ c ≠ none
      by_cases cb : c = b
      · subst cb
        rw [put1_same, List.getElem?_set_self bl]
        exact Iff.intro (fun _ q => nomatch q) (fun _ => rfl)
      · rw [put1_ne cb, List.getElem?_set_ne (fun z => cb z.symm)]
        exact h.tl c cn
    · have := pot_set N.forks.length a.S.spots b _ none e
      show pot _ (a.S.spots.set b none) + 1 ≤ _
      unfold goes at this
      simp only at this
      lia
  · refine ⟨⟨(OkS.go ok h.os h1 nk.upto).2, h.fi.go e, by show (a.S.spots.set b _).length = n; rw [List.length_set]; exact h.ln, fun c cn => ?_⟩, ?_⟩
    · show (a.S.spots.set b _)[c]? = some none ↔ a.told c ≠ none
      by_cases cb : c = b
      · subst cb
        rw [List.getElem?_set_self bl]
        have := h.tl c cn
        rw [e] at this
        exact Iff.intro (fun q => nomatch q) (fun q => nomatch this.mpr q)
      · rw [List.getElem?_set_ne (fun z => cb z.symm)]
        exact h.tl c cn
    · have := pot_set N.forks.length a.S.spots b _ (some (onT N a.S b k, k')) e
      have f := nk.from_
      show pot _ (a.S.spots.set b (some (onT N a.S b k, k'))) + 1 ≤ _
      unfold goes at this
      simp only at this
      lia
noncomputable def nxt (fs : List (Nat × Nat)) (lane : Nat) : Nat := Classical.choose (next_ex fs lane 0 (Nat.zero_le _))
theorem nxt_is (fs : List (Nat × Nat)) (lane : Nat) : IsNext fs lane 0 (nxt fs lane) := Classical.choose_spec (next_ex fs lane 0 (Nat.zero_le _))
structure RunP where
  lane : Nat
  start : Int
  pace : Int
instance : Inhabited RunP := ⟨⟨0, 0, 0⟩⟩
noncomputable def spots0 (N : Nt) (rs : List RunP) : List (Option (Nat × Nat)) := rs.map fun r => some (r.lane, nxt N.forks r.lane)
noncomputable def Sn (N : Nt) (rs : List RunP) : Tst := ⟨List.replicate N.forks.length 0, spots0 N rs, List.replicate N.lanes 0, []⟩
noncomputable def a0 (N : Nt) (rs : List RunP) : PSt := ⟨Sn N rs, fun b => (rs.getD b default).start, fun _ => none⟩
def paceF (rs : List RunP) : Nat → Int := fun b => (rs.getD b default).pace
theorem sn_snoc (N : Nt) (rs : List RunP) (r : RunP) {k : Nat} (h : IsNext N.forks r.lane 0 k) : { Sn N rs with spots := (Sn N rs).spots ++ [some (r.lane, k)] } = Sn N (rs ++ [r]) := by
  unfold Sn spots0
  rw [List.map_append, h.one (nxt_is _ _)]; rfl
theorem spots0_at (N : Nt) (rs : List RunP) {b : Nat} {r : RunP} (h : rs[b]? = some r) : (spots0 N rs)[b]? = some (some (r.lane, nxt N.forks r.lane)) := by
  unfold spots0
  rw [List.getElem?_map, h]; rfl
theorem way0 (N : Nt) (rs : List RunP) : wayL (spots0 N rs) = List.range rs.length := by
  unfold wayL
  have l : (spots0 N rs).length = rs.length := List.length_map ..
  rw [l, List.filter_eq_self.mpr]
  intro b hb
  rw [List.getD_eq_getElem?_getD, spots0_at N rs (List.getElem?_eq_getElem (List.mem_range.mp hb))]; rfl
theorem pin0 {N : Nt} (ok : N.Ok) {rs : List RunP} (h : ∀ r ∈ rs, r.lane < N.lanes) : PIn N rs.length (a0 N rs) := by
  have l : (spots0 N rs).length = rs.length := List.length_map ..
  refine ⟨⟨List.length_replicate, fun x hx => by rw [List.eq_of_mem_replicate hx]; decide, fun lane k hm => ?_, List.length_replicate⟩, ⟨(fine0 ok.l1).num, ?_, fun n hn => by cases hn⟩, l, fun b hb => ?_⟩
  · obtain ⟨r, hr, e⟩ := List.mem_map.mp hm
    cases Option.some.inj e
    exact ⟨h r hr, (nxt_is _ _).upto⟩
  · show 0 + (wayL (spots0 N rs)).length = (spots0 N rs).length
    rw [way0, l, List.length_range, Nat.zero_add]
  · show (spots0 N rs)[b]? = some none ↔ (none : Option (Nat × Nat × Int)) ≠ none
    rw [spots0_at N rs (List.getElem?_eq_getElem hb)]
    exact Iff.intro (fun q => nomatch q) (fun q => absurd rfl q)
structure Batch (now : Int) (bs : List Nat) (a : PSt) : Prop where
  so : bs.Pairwise (· < ·)
  mem : ∀ b ∈ bs, b ∈ wayL a.S.spots ∧ a.t b = now
  all : ∀ c ∈ wayL a.S.spots, now ≤ a.t c ∧ (a.t c = now → c ∈ bs)
theorem Batch.least {now : Int} {b : Nat} {bs : List Nat} {a : PSt} (h : Batch now (b :: bs) a) : Least a b := by
  obtain ⟨m, e⟩ := h.mem b (.head _)
  refine ⟨m, fun c hc => ?_⟩
  obtain ⟨g, q⟩ := h.all c hc
  unfold le2
  by_cases z : a.t c = now
  · rcases List.mem_cons.mp (q z) with y | y
    · rw [y]; exact .inr ⟨rfl, Int.le_refl _⟩
    · have := (List.pairwise_cons.mp h.so).1 c y
      right; lia
  · left; lia
theorem Batch.next {N : Nt} {pc : Nat → Int} {now : Int} {b : Nat} {bs : List Nat} {a z : PSt} (p : 1 ≤ pc b) (h : Batch now (b :: bs) a) (d : Adv N pc a b z) : Batch now bs z := by
  obtain ⟨m, e⟩ := h.mem b (.head _)
  obtain ⟨so1, so2⟩ := List.pairwise_cons.mp h.so
  obtain ⟨lane, k, es, d⟩ := d
  have nb : ∀ c ∈ bs, c ≠ b := fun c hc z => by have := so1 c hc; lia
  rcases d with ⟨h1, rfl⟩ | ⟨h1, k', nk, rfl⟩
  · have w : ∀ c, c ∈ wayL (a.S.spots.set b none) ↔ c ∈ wayL a.S.spots ∧ c ≠ b := fun c => by
      rw [way_none, List.mem_filter, decide_eq_true_iff]
    refine ⟨so2, fun c hc => ⟨(w c).mpr ⟨(h.mem c (.tail _ hc)).1, nb c hc⟩, (h.mem c (.tail _ hc)).2⟩, fun c hc => ?_⟩
    obtain ⟨w1, w2⟩ := (w c).mp hc
    obtain ⟨g, q⟩ := h.all c w1
    exact ⟨g, fun z => (List.mem_cons.mp (q z)).resolve_left w2⟩
  · have w : wayL (a.S.spots.set b (some (onT N a.S b k, k'))) = wayL a.S.spots := way_go es
    refine ⟨so2, fun c hc => ⟨?_, ?_⟩, fun c hc => ?_⟩
    · show c ∈ wayL (a.S.spots.set b _)
      rw [w]; exact (h.mem c (.tail _ hc)).1
    · show put1 a.t b _ c = now
      rw [put1_ne (nb c hc)]; exact (h.mem c (.tail _ hc)).2
    · replace hc : c ∈ wayL (a.S.spots.set b (some (onT N a.S b k, k'))) := hc
      rw [w] at hc
      show now ≤ put1 a.t b _ c ∧ (put1 a.t b _ c = now → c ∈ bs)
      by_cases cb : c = b
      · subst cb
        rw [put1_same]
        exact ⟨by lia, fun z => by lia⟩
      · rw [put1_ne cb]
        obtain ⟨g, q⟩ := h.all c hc
        exact ⟨g, fun z => (List.mem_cons.mp (q z)).resolve_left cb⟩
end Bn
end
section
set_option maxHeartbeats 4000001
namespace Bn
open PySem L2 Own
end Bn
end
section
set_option maxHeartbeats 4000001
namespace Bn
open PySem L2 Own
end Bn
end
section
set_option maxHeartbeats 4000001
namespace Bn
open PySem L2 Own
end Bn
end
section
set_option maxHeartbeats 4000001
namespace Bn
open PySem L2 Own
end Bn
end
section
set_option maxHeartbeats 4000001
namespace Bn
open PySem L2 Own
end Bn
end
section
set_option maxHeartbeats 4000001
namespace L2
open PySem PySem.Spec PyProof.Rows Own
section
variable {X : Cx}
end
end L2
namespace Bn
open PySem L2 Own
end Bn
end
section
set_option maxHeartbeats 4000001
namespace Bn
open PySem L2 Own
end Bn
end
section
set_option maxHeartbeats 4000001
namespace L2
open PySem PySem.Spec PyProof.Rows Own
section
variable {prog : Program} {w : World} {A : Around} {E : Value → Shared → Prop} {it l : Addr} {items : Array Value}
end
section
variable {X : Cx}
end
end L2
end
section
set_option maxHeartbeats 4000001
namespace L2
open PySem
theorem Room.u1 {k : Nat} {A : Around} (r : Room k A) : A.units + 1 < cLine := by have := r.un; lia
end L2
namespace Bn
open PySem L2 Own
section
variable {H0 H H' : Hp} {l d lt lg lo : Addr} {qa : List Addr} {ts os : List Int} {gs : List Grp}
end
end Bn
end
section
set_option maxHeartbeats 4000001
namespace L2
open PySem
end L2
end
section
set_option maxHeartbeats 4000001
namespace K97
open PySem L2 Own Bn
abbrev sRan : Stmt := top 13
def RunsAt (H : Hp) (qs : List V) (rs : List RunP) : Prop := qs.length = rs.length ∧ ∀ (i : Nat) q r, qs[i]? = some q → rs[i]? = some r → ∃ p, q = .ref p ∧ H p = some (.tup [.int (r.lane : Nat), .int r.start, .int r.pace])
theorem RunsAt.tups {H H' : Hp} {qs : List V} {rs : List RunP} (h : RunsAt H qs rs) (t : Tups H H') : RunsAt H' qs rs := ⟨h.1, fun i q r a b => by
  obtain ⟨p, e, z⟩ := h.2 i q r a b
  exact ⟨p, e, t _ _ z⟩⟩
theorem RunsAt.at_ {H : Hp} {qs : List V} {rs : List RunP} (h : RunsAt H qs rs) {i : Nat} (il : i < rs.length) : ∃ p, qs[i]? = some (.ref p) ∧ H p = some (.tup [.int ((rs.getD i default).lane : Nat), .int (rs.getD i default).start, .int (rs.getD i default).pace]) := by
  have er : rs[i]? = some (rs.getD i default) := by rw [List.getD_eq_getElem?_getD, List.getElem?_eq_getElem il]; rfl
  have iq : i < qs.length := by rw [h.1]; exact il
  have eq : qs[i]? = some qs[i] := List.getElem?_eq_getElem iq
  obtain ⟨p, e, z⟩ := h.2 i _ _ eq er
  exact ⟨p, by rw [eq, e], z⟩
def TldV (H : Hp) (v : V) : Option (Nat × Nat × Int) → Prop
  | none => v = .non
  | some (n, e, m) => ∃ q, v = .ref q ∧ H q = some (.tup [.int (n : Nat), .int (e : Nat), .int m])
def TldL (H : Hp) (xs : List V) (told : Nat → Option (Nat × Nat × Int)) (n : Nat) : Prop := xs.length = n ∧ ∀ (i : Nat) v, xs[i]? = some v → TldV H v (told i)
theorem TldV.tups {H H' : Hp} {v : V} (t : Tups H H') : ∀ {o : Option (Nat × Nat × Int)}, TldV H v o → TldV H' v o
  | none, h => h
  | some (n, e, m), ⟨q, a, b⟩ => ⟨q, a, t _ _ b⟩
theorem TldL.tups {H H' : Hp} {xs : List V} {told : Nat → Option (Nat × Nat × Int)} {n : Nat} (h : TldL H xs told n) (t : Tups H H') : TldL H' xs told n := ⟨h.1, fun i v e => (h.2 i v e).tups t⟩
theorem TldL.put {H : Hp} {xs : List V} {told : Nat → Option (Nat × Nat × Int)} {n b : Nat} {v : V} {o : Option (Nat × Nat × Int)} (h : TldL H xs told n) (hv : TldV H v o) : TldL H (xs.set b v) (put1 told b o) n := by
  refine ⟨by rw [List.length_set]; exact h.1, fun i u e => ?_⟩
  by_cases c : i = b
  · subst c
    have il : i < xs.length := by have := (List.getElem?_eq_some_iff.mp e).1; rwa [List.length_set] at this
    rw [List.getElem?_set_self il] at e
    rw [put1_same, ← Option.some.inj e]; exact hv
  · rw [List.getElem?_set_ne (fun z => c z.symm)] at e
    rw [put1_ne c]; exact h.2 i u e
def TldAt (H : Hp) (p : Addr) (told : Nat → Option (Nat × Nat × Int)) (n : Nat) : Prop := ∃ xs, H p = some (.tup xs) ∧ TldL H xs told n ∧ ∀ i, i < n → told i ≠ none
def dkL (ws : List Nat) (t : Nat → Int) : List (Key × V) := ws.map fun (b : Nat) => ((Sum.inl (b : Int) : Key), V.int (t b))
theorem dk_any (ws : List Nat) (t : Nat → Int) (b : Nat) : ((dkL ws t).any fun kv => decide (kv.1 = (Sum.inl (b : Int) : Key))) = decide (b ∈ ws) := by
  rw [Bool.eq_iff_iff, decide_eq_true_iff, List.any_eq_true]
  unfold dkL
  constructor
  · rintro ⟨p, hp, e⟩
    obtain ⟨c, hc, rfl⟩ := List.mem_map.mp hp
    have : (c : Int) = b := Sum.inl.inj (of_decide_eq_true e)
    rwa [show b = c by lia]
  · intro h
    exact ⟨_, List.mem_map.mpr ⟨b, h, rfl⟩, decide_eq_true rfl⟩
theorem dk_new (ws : List Nat) (t : Nat → Int) (b : Nat) (h : b ∉ ws) : putK (dkL ws t) (.inl (b : Int)) (.int (t b)) = dkL (ws ++ [b]) t := by
  unfold putK
  rw [dk_any, decide_eq_false h, if_neg Bool.false_ne_true]
  unfold dkL
  rw [List.map_append]; rfl
theorem dk_put (ws : List Nat) (t : Nat → Int) (b : Nat) (h : b ∈ ws) (m : Int) : putK (dkL ws t) (.inl (b : Int)) (.int m) = dkL ws (put1 t b m) := by
  unfold putK
  rw [dk_any, decide_eq_true h, if_pos rfl]
  unfold dkL
  rw [List.map_map]
  refine List.map_congr_left fun c _ => ?_
  show (if (Sum.inl (c : Int) : Key) = Sum.inl (b : Int) then _ else _) = _
  by_cases e : c = b
  · subst e; rw [if_pos rfl, put1_same]
  · rw [if_neg (fun z => e (by have := Sum.inl.inj z; lia)), put1_ne e]
theorem dk_drop (ws : List Nat) (t : Nat → Int) (b : Nat) : dropK (dkL ws t) (.inl (b : Int)) = dkL (ws.filter fun c => decide (c ≠ b)) t := by
  unfold dropK dkL
  rw [List.filter_map]
  congr 1
  refine List.filter_congr fun c _ => ?_
  show decide ((Sum.inl (c : Int) : Key) ≠ Sum.inl (b : Int)) = _
  exact decide_eq_decide.mpr ⟨fun h z => h (by rw [z]), fun h z => h (by have := Sum.inl.inj z; lia)⟩
theorem dk_val (ws : List Nat) (t : Nat → Int) (b : Nat) (h : b ∈ ws) : (valV (dkL ws t) (.inl (b : Int))).isSome = true := by
  rw [← valV_any, dk_any]; exact decide_eq_true h
theorem dk_at {ws : List Nat} {t : Nat → Int} {i : Nat} {p : Key × V} (h : (dkL ws t)[i]? = some p) : ∃ b, ws[i]? = some b ∧ p = (.inl (b : Int), .int (t b)) := by
  unfold dkL at h
  rw [List.getElem?_map] at h
  cases e : ws[i]? with
  | none => rw [e] at h; cases h
  | some b => rw [e] at h; exact ⟨b, rfl, (Option.some.inj h).symm⟩
theorem no_a {n s p c u : Addr} : (flds5 n s p c u).lookup ("start" : Str) = none := fl_no (by decide +kernel) (by decide +kernel) (by decide +kernel) (by decide +kernel) (by decide +kernel)
theorem no_s {n s p c u : Addr} : (flds5 n s p c u).lookup ("step" : Str) = none := fl_no (by decide +kernel) (by decide +kernel) (by decide +kernel) (by decide +kernel) (by decide +kernel)
theorem way_nodup (os : List (Option (Nat × Nat))) : (wayL os).Nodup := by
  unfold wayL
  exact List.Nodup.sublist List.filter_sublist List.nodup_range
theorem tel_dict {C : Addr} {H : Hp} {A : Tad} {N : Nt} {S : Tst} {d : Addr} {kvs : List (Key × V)} (T : TelAt C H A N S) (hd : H d = some (.dK kvs)) (o : HO) : TelAt C (L2.upd H d o) A N S := by
  obtain ⟨dx, e⟩ := T.ob
  obtain ⟨sp, h1, h2⟩ := T.hp
  have ls : ∀ {b : Addr} {xs : List V}, H b = some (.lst xs) → L2.upd H d o b = some (.lst xs) := fun e => by rw [upd_ne (ne_of e hd (fun z => by cases z))]; exact e
  have tp : Tups H (L2.upd H d o) := fun b xs e => by rw [upd_ne (ne_of e hd (fun z => by cases z))]; exact e
  exact ⟨⟨dx, by rw [upd_ne (ne_of e hd (fun z => by cases z))]; exact e⟩, T.na.tups tp, ls T.hs, ⟨sp, ls h1, h2.tups tp⟩, ls T.hc, ls T.hn, T.d1, T.d2, T.d3, T.d4, T.d5, T.d6⟩
def PrL (H : Hp) (acc : List V) (ws : List Nat) (t : Nat → Int) : Prop := ∀ (i : Nat) v, acc[i]? = some v → ∃ b q, ws[i]? = some b ∧ v = .ref q ∧ H q = some (.tup [.int (t b), .int (b : Nat)])
theorem PrL.same {H H' : Hp} {acc : List V} {ws : List Nat} {t : Nat → Int} (h : PrL H acc ws t) (s : Tups H H') : PrL H' acc ws t := fun i v e => by
  obtain ⟨b, q, h1, h2, h3⟩ := h i v e
  exact ⟨b, q, h1, h2, s _ _ h3⟩
def spRan : Sp := fun vs H Q _ => ∃ (r fr er : Addr) (ps : List V) (N : Nt) (pr : Addr) (qs : List V) (rs : List RunP), vs = [.ref r, .ref pr] ∧ Nt.Ok N ∧ NetAt H r fr er ps N ∧ H pr = some (.tup qs) ∧ RunsAt H qs rs ∧ rs.length ≤ 60 ∧ (∀ x ∈ rs, x.lane < N.lanes ∧ 1 ≤ x.pace) ∧
  ∀ p a H', Same H H' → Chain N (paceF rs) (a0 N rs) a → wayL a.S.spots = [] → PIn N rs.length a → TldAt H' p a.told rs.length → Q (.ref p) H'
section
variable {P : Program} {w : World} {K : PySem.W.Frag} {mg : Str → Option Value} {base : Heap} {C : Addr}
theorem scRa : FnScope ["net", "runs", "teller", "due", "lane", "start", "pace", "told", "moment", "ball", "number"] ["net", "runs"] (defScope sRan) := ⟨rfl, rfl, rfl, by decide +kernel, rfl, by decide +kernel, by decide +kernel⟩
theorem ok_ran {f fI fS fP : Addr} {fd dI dS dP : FuncData} (F : Fun K "ran" "ran" sRan f fd) (G : Mgs mg) (T : Txt K mg C) (MT : Mk K C fI) (UI : UseM P w K mg base C "__init__" ["self", "net"] 1 (spTInit C) fI dI) (US : UseM P w K mg base C "start" ["self", "lane"] 3 (spTStart C) fS dS) (UP : UseM P w K mg base C "step" ["self", "ball"] 3 (spTStep C) fP dP) : FnOk P w K mg base CX0 4 f fd ["net", "runs"] spRan := by
  refine F.ok scRa (fun vs H Q E h => ?_) (fun cdv A outer s H vs Q E hr h => ?_)
  · obtain ⟨r, fr, er, ps, N, pr, qs, rs, rfl, _⟩ := h
    rfl
  obtain ⟨r, fr, er, ps, N, pr, qs, rs, rfl, ok, na, hpr, ra, r100, rok, k⟩ := h
  have hr2 : Room 2 _ := hr.mono (by decide)
  have hr3 : Room 3 _ := hr.mono (by decide)
  refine ⟨_, (@pss_cons _ _ _ _ _ (@ps_set _ _ 2 _ _ _ _ scRa.nd rfl (Or.inl rfl) (@pe_make _ _ _ _ _ _ _ _ _ _ _ _ _ _ _ _ _ MT UI.ok hr2 rfl T.mgC UI.b .nil pass0 (@pa_cons _ _ _ _ _ (@pv _ 0 _ _ (by rfl) (by first | exact Or.inl rfl | exact Or.inr (Or.inl rfl) | exact Or.inr (Or.inr rfl)) (by decide) (by decide)) pa_nil (by rfl)) (by decide) (by rfl) (by rfl)) (by rfl) (by first | exact .inl rfl | exact .inr rfl | assumption)) (@pss_cons _ _ _ _ _ (@ps_set _ _ 3 _ _ _ _ scRa.nd rfl (Or.inl rfl) pe_dnewK (by rfl) (by first | exact .inl rfl | exact .inr rfl | assumption)) (@pss_cons _ _ _ _ _ (@ps_for _ _ _ _ _ _ _ _ PassesOwn.never rfl (@pi_tup _ _ _ _ (@pv _ 1 _ _ (by rfl) (by first | exact Or.inl rfl | exact Or.inr (Or.inl rfl) | exact Or.inr (Or.inr rfl)) (by decide) (by decide))) (@pg_tup _ _ _ _ _ _ rfl (@pgs_cons _ _ _ _ _ (@pg_name _ _ 4 _ scRa.nd rfl (Or.inl rfl) (by first | exact .inl rfl | exact .inr rfl | assumption)) (@pgs_cons _ _ _ _ _ (@pg_name _ _ 5 _ scRa.nd rfl (Or.inl rfl) (by first | exact .inl rfl | exact .inr rfl | assumption)) (@pgs_cons _ _ _ _ _ (@pg_name _ _ 6 _ scRa.nd rfl (Or.inl rfl) (by first | exact .inl rfl | exact .inr rfl | assumption)) pgs_nil (by rfl)) (by rfl)) (by rfl)) (by rfl) (by rfl)) (@pss_one _ _ _ (@ps_dput _ _ _ _ _ _ _ _ _ hr.u1 (@pv _ 3 _ _ (by rfl) (by first | exact Or.inl rfl | exact Or.inr (Or.inl rfl) | exact Or.inr (Or.inr rfl)) (by decide) (by decide)) (@pe_meth _ _ _ _ _ _ _ _ _ _ _ _ _ _ _ _ _ _ _ _ (@pv _ 2 _ _ (by rfl) (by first | exact Or.inl rfl | exact Or.inr (Or.inl rfl) | exact Or.inr (Or.inr rfl)) (by decide) (by decide)) T.cl US.mt US.ok hr3 US.b .nil pass0 (@pa_cons _ _ _ _ _ (@pv _ 4 _ _ (by rfl) (by first | exact Or.inl rfl | exact Or.inr (Or.inl rfl) | exact Or.inr (Or.inr rfl)) (by decide) (by decide)) pa_nil (by rfl)) (by rfl) (by rfl) (by rfl)) (@pv _ 5 _ _ (by rfl) (by first | exact Or.inl rfl | exact Or.inr (Or.inl rfl) | exact Or.inr (Or.inr rfl)) (by decide) (by decide)) (by rfl))) (by intro _; rfl)) (@pss_cons _ _ _ _ _ (@ps_set _ _ 7 _ _ _ _ scRa.nd rfl (Or.inl rfl) (@pe_op _ _ _ _ _ _ _ _ op_rep (@pe_lst _ _ _ _ (@pa_cons _ _ _ _ _ pe_non pa_nil (by rfl))) (@pe_callB _ _ _ _ _ _ _ _ _ call_len_seq (by rfl) G.len PySem.boot_len (@pa_cons _ _ _ _ _ (@pv _ 1 _ _ (by rfl) (by first | exact Or.inl rfl | exact Or.inr (Or.inl rfl) | exact Or.inr (Or.inr rfl)) (by decide) (by decide)) pa_nil (by rfl)) (by decide) (by decide) (by rfl) (by rfl))) (by rfl) (by first | exact .inl rfl | exact .inr rfl | assumption)) (@pss_cons _ _ _ _ _ (@ps_while _ _ _ _ _ _ PassesOwn.never (@pt_truth _ _ _ (@pv _ 3 _ _ (by rfl) (by first | exact Or.inl rfl | exact Or.inr (Or.inl rfl) | exact Or.inr (Or.inr rfl)) (by decide) (by decide)) (fun _ => rfl)) (@pss_cons _ _ _ _ _ (@ps_asg _ _ _ _ _ _ (@pe_callB _ _ _ _ _ _ _ _ _ (call_minP rfl hr.units) (by rfl) G.min (by rfl) (@pa_cons _ _ _ _ _ (@pe_thaw _ _ _ (@pe_lc _ _ _ _ none _ _ _ (gTup K 2 (gCons (gName 0) (gCons (gName 1) gNil))) _ _ ["place", "when"] [none, none] rfl (@pi_ditems _ _ _ _ _ _ _ _ (@pv _ 3 _ _ (by rfl) (by first | exact Or.inl rfl | exact Or.inr (Or.inl rfl) | exact Or.inr (Or.inr rfl)) (by decide) (by decide)) (by rfl) (by rfl)) (CapOk.of (by kernel_rfl)) (fun _ _ _ _ _ => (@pg_tup _ _ _ _ _ _ rfl (@pgs_cons _ _ _ _ _ (@pg_name _ _ 0 _ (show (["place", "when"] : List Str).Nodup from by decide +kernel) rfl (Or.inl rfl) (Or.inr rfl)) (@pgs_cons _ _ _ _ _ (@pg_name _ _ 1 _ (show (["place", "when"] : List Str).Nodup from by decide +kernel) rfl (Or.inl rfl) (Or.inr rfl)) pgs_nil (by rfl)) (by rfl)) (by rfl) (by rfl))) (fun _ _ _ _ _ => pt_none) (fun _ _ _ _ _ => (@pe_tup _ _ _ _ _ (@pa_cons _ _ _ _ _ (@pv _ 1 _ _ (by rfl) (by first | exact Or.inl rfl | exact Or.inr (Or.inl rfl) | exact Or.inr (Or.inr rfl)) (by decide) (by decide)) (@pa_cons _ _ _ _ _ (@pv _ 0 _ _ (by rfl) (by first | exact Or.inl rfl | exact Or.inr (Or.inl rfl) | exact Or.inr (Or.inr rfl)) (by decide) (by decide)) pa_nil (by rfl)) (by rfl)))) (by intro _; rfl))) pa_nil (by rfl)) (by decide) (by decide) (by rfl) (by rfl)) (@pg_tup _ _ _ _ _ _ rfl (@pgs_cons _ _ _ _ _ (@pg_name _ _ 8 _ scRa.nd rfl (Or.inl rfl) (by first | exact .inl rfl | exact .inr rfl | assumption)) (@pgs_cons _ _ _ _ _ (@pg_name _ _ 9 _ scRa.nd rfl (Or.inl rfl) (by first | exact .inl rfl | exact .inr rfl | assumption)) pgs_nil (by rfl)) (by rfl)) (by rfl) (by rfl)) (by rfl) (by rfl) (by rfl)) (@pss_cons _ _ _ _ _ (@ps_set _ _ 10 _ _ _ _ scRa.nd rfl (Or.inl rfl) (@pe_meth _ _ _ _ _ _ _ _ _ _ _ _ _ _ _ _ _ _ _ _ (@pv _ 2 _ _ (by rfl) (by first | exact Or.inl rfl | exact Or.inr (Or.inl rfl) | exact Or.inr (Or.inr rfl)) (by decide) (by decide)) T.cl UP.mt UP.ok hr3 UP.b .nil pass0 (@pa_cons _ _ _ _ _ (@pv _ 9 _ _ (by rfl) (by first | exact Or.inl rfl | exact Or.inr (Or.inl rfl) | exact Or.inr (Or.inr rfl)) (by decide) (by decide)) pa_nil (by rfl)) (by rfl) (by rfl) (by rfl)) (by rfl) (by first | exact .inl rfl | exact .inr rfl | assumption)) (@pss_one _ _ _ (@ps_if _ _ _ _ _ _ _ _ (@pt_cmpR _ _ _ _ _ _ _ _ op_isN (@pv _ 10 _ _ (by rfl) (by first | exact Or.inl rfl | exact Or.inr (Or.inl rfl) | exact Or.inr (Or.inr rfl)) (by decide) (by decide)) pe_non (by rfl)) (@pss_one _ _ _ (@ps_dput _ _ _ _ _ _ _ _ _ hr.u1 (@pv _ 3 _ _ (by rfl) (by first | exact Or.inl rfl | exact Or.inr (Or.inl rfl) | exact Or.inr (Or.inr rfl)) (by decide) (by decide)) (@pv _ 9 _ _ (by rfl) (by first | exact Or.inl rfl | exact Or.inr (Or.inl rfl) | exact Or.inr (Or.inr rfl)) (by decide) (by decide)) (@pe_op _ _ _ _ _ _ _ _ op_add (@pv _ 8 _ _ (by rfl) (by first | exact Or.inl rfl | exact Or.inr (Or.inl rfl) | exact Or.inr (Or.inr rfl)) (by decide) (by decide)) (@pe_ix _ _ _ _ _ _ _ ix_tup (@pe_ix _ _ _ _ _ _ _ ix_tup (@pv _ 1 _ _ (by rfl) (by first | exact Or.inl rfl | exact Or.inr (Or.inl rfl) | exact Or.inr (Or.inr rfl)) (by decide) (by decide)) (@pv _ 9 _ _ (by rfl) (by first | exact Or.inl rfl | exact Or.inr (Or.inl rfl) | exact Or.inr (Or.inr rfl)) (by decide) (by decide)) (fun _ _ => rfl)) pe_int (fun _ _ => rfl))) (by rfl))) (@pss_cons _ _ _ _ _ (@ps_asg _ _ _ _ _ _ (@pe_tup _ _ _ _ _ (@pa_cons _ _ _ _ _ (@pv _ 10 _ _ (by rfl) (by first | exact Or.inl rfl | exact Or.inr (Or.inl rfl) | exact Or.inr (Or.inr rfl)) (by decide) (by decide)) (@pa_cons _ _ _ _ _ (@pe_op _ _ _ _ _ _ _ _ op_mod (@pv _ 10 _ _ (by rfl) (by first | exact Or.inl rfl | exact Or.inr (Or.inl rfl) | exact Or.inr (Or.inr rfl)) (by decide) (by decide)) (@pe_ix _ _ _ _ _ _ _ ix_tup (@pv _ 0 _ _ (by rfl) (by first | exact Or.inl rfl | exact Or.inr (Or.inl rfl) | exact Or.inr (Or.inr rfl)) (by decide) (by decide)) pe_int (fun _ _ => rfl))) (@pa_cons _ _ _ _ _ (@pv _ 8 _ _ (by rfl) (by first | exact Or.inl rfl | exact Or.inr (Or.inl rfl) | exact Or.inr (Or.inr rfl)) (by decide) (by decide)) pa_nil (by rfl)) (by rfl)) (by rfl))) (@pg_sub _ _ _ _ _ _ _ (@pv _ 7 _ _ (by rfl) (by first | exact Or.inl rfl | exact Or.inr (Or.inl rfl) | exact Or.inr (Or.inr rfl)) (by decide) (by decide)) (@pv _ 9 _ _ (by rfl) (by first | exact Or.inl rfl | exact Or.inr (Or.inl rfl) | exact Or.inr (Or.inr rfl)) (by decide) (by decide)) set_list (by intro _; rfl)) (by rfl) (by rfl) (by rfl)) (@pss_one _ _ _ (@ps_ddel _ _ _ _ _ _ _ (@pv _ 3 _ _ (by rfl) (by first | exact Or.inl rfl | exact Or.inr (Or.inl rfl) | exact Or.inr (Or.inr rfl)) (by decide) (by decide)) (@pv _ 9 _ _ (by rfl) (by first | exact Or.inl rfl | exact Or.inr (Or.inl rfl) | exact Or.inr (Or.inr rfl)) (by decide) (by decide)))))))))) (@pss_one _ _ _ (@ps_ret _ _ _ _ (@pe_callTy _ _ _ _ _ _ _ _ _ call_tuple_of (by rfl) G.tuple (by rfl) (@pa_cons _ _ _ _ _ (@pv _ 7 _ _ (by rfl) (by first | exact Or.inl rfl | exact Or.inr (Or.inl rfl) | exact Or.inr (Or.inr rfl)) (by decide) (by decide)) pa_nil (by rfl)) (by decide) (by decide) (by rfl) (by rfl))))))))), ?_⟩
  have l1 := ok.l1
  have l16 := ok.l16
  have ql := ra.1
  refine ⟨_, rfl, ?_⟩
  intro t dx nt ndx nex
  have s1 : Same H (L2.upd (L2.upd H dx (.own t)) t (.ins C dx [])) := fun b o e => by
    rw [upd_ne (ne_of_none e nt), upd_ne (ne_of_none e ndx)]; exact e
  refine ⟨t, dx, r, fr, er, ps, N, rfl, upd_same, ok, na.tups (Tups.of s1), fun ls lp lc ln H2 f1 f2 f3 f4 te2 kp2 => ⟨rfl, ?_⟩⟩
  have s2 : Same H H2 := fun b o e => kp2 b o (s1 b o e) (ne_of_none e nt)
  generalize hA : (⟨t, r, fr, er, ps, ls, lp, lc, ln⟩ : Tad) = A1 at te2
  have eT : A1.t = t := by rw [← hA]
  have eR : A1.r = r := by rw [← hA]
  have fA : ∀ {b : Addr} {o : HO}, H b = some o → b ≠ A1.ls ∧ b ≠ A1.lp ∧ b ≠ A1.lc ∧ b ≠ A1.ln := fun {b o} e => by
    rw [← hA]
    exact ⟨ne_of_none (s1 _ _ e) f1, ne_of_none (s1 _ _ e) f2, ne_of_none (s1 _ _ e) f3, ne_of_none (s1 _ _ e) f4⟩
  clear hA f1 f2 f3 f4 kp2
  subst eT eR
  intro d hd
  have s3 := same_new hd (.dK [])
  have te3 := te2.keep s3
  have hd3 := atNew hd (.dK [])
  have u3 := s2.trans s3
  have nd : ∀ {b : Addr} {o : HO}, H2 b = some o → b ≠ d := fun e => ne_of_none e hd
  generalize L2.upd H2 d (.dK []) = H3 at s3 te3 hd3 u3 ⊢
  refine ⟨_, rfl, pr, rfl, ⟨_, SqT.of (u3 _ _ hpr)⟩, ?_⟩
  have pi0 := pin0 ok fun x hx => (rok x hx).1
  have dA : d ≠ A1.ls ∧ d ≠ A1.lp ∧ d ≠ A1.lc ∧ d ≠ A1.ln := by
    obtain ⟨sp, h1, _⟩ := te2.hp
    exact ⟨(nd te2.hs).symm, (nd h1).symm, (nd te2.hc).symm, (nd te2.hn).symm⟩
  have sBut : ∀ {H4 H5 : Hp}, Same H H4 → But4 A1 H4 H5 → Same H H5 := fun s b x o e => by
    obtain ⟨a1, a2, a3, a4⟩ := fA e
    exact b x o (s x o e) a1 a2 a3 a4
  have sUpd : ∀ {H4 : Hp} (o : HO), Same H H4 → Same H (L2.upd H4 d o) := fun o s x u e => by
    rw [upd_ne (nd (s2 _ _ e))]; exact s x u e
  refine for_tup (K := K) (a := pr) (xs := qs) (fun j σ H4 => (∃ v4 v5 v6 v7 v8 v9 v10, σ = [some (.ref A1.r), some (.ref pr), some (.ref A1.t), some (.ref d), v4, v5, v6, v7, v8, v9, v10]) ∧ TelAt C H4 A1 N (Sn N (rs.take j)) ∧ H4 d = some (.dK (dkL (List.range j) (a0 N rs).t)) ∧ Same H H4) ⟨⟨_, _, _, _, _, _, _, rfl⟩, te3, hd3, u3⟩ (fun j σ H4 _ z => SqT.of (z.2.2.2 _ _ hpr)) ?_ ?_
  · rintro j x σ H4 hx ⟨⟨v4, v5, v6, v7, v8, v9, v10, rfl⟩, te4, hd4, u4⟩
    have jl : j < rs.length := by have := (List.getElem?_eq_some_iff.mp hx).1; lia
    obtain ⟨p, hp1, hp2⟩ := (ra.tups (Tups.of u4)).at_ jl
    rw [hp1] at hx
    obtain rfl := Option.some.inj hx
    have er : rs[j]? = some (rs.getD j default) := by rw [List.getD_eq_getElem?_getD, List.getElem?_eq_getElem jl]; rfl
    have rm := List.mem_of_getElem? er
    have et : rs.take (j + 1) = rs.take j ++ [rs.getD j default] := by
      rw [List.take_succ, er]; rfl
    have os4 := (pin0 (rs := rs.take j) ok fun x hx => (rok x (List.mem_of_mem_take hx)).1).os
    have sl4 : (Sn N (rs.take j)).spots.length = j := by
      show (spots0 N (rs.take j)).length = j
      unfold spots0
      rw [List.length_map, List.length_take]; lia
    refine ⟨p, _, rfl, SqT.of hp2, rfl, _, _, rfl, _, _, rfl, _, _, rfl, rfl, ?_⟩
    obtain ⟨dxa, oba⟩ := te4.ob
    refine ⟨_, rfl, _, rfl, _, rfl, A1.t, dxa, _, rfl, oba, no_a, _, rfl, A1, N, _, (rs.getD j default).lane, rfl, ok, te4, os4, (rok _ rm).1, by lia, fun k5 H5 nk te5 b5 => ?_⟩
    rw [sn_snoc N _ _ nk, ← et] at te5
    have hd5 := b5 _ _ hd4 dA.1 dA.2.1 dA.2.2.1 dA.2.2.2
    rw [sl4]
    refine ⟨d, _, rfl, DPut.k (k := .inl (j : Nat)) hd5 (by unfold dkL; rw [List.length_map, List.length_range, sizeLine_eq]; lia), ?_⟩
    refine ⟨⟨_, _, _, _, _, _, _, rfl⟩, tel_dict te5 hd5 _, ?_, sUpd _ (sBut u4 b5)⟩
    rw [upd_same]
    have := dk_new (List.range j) (a0 N rs).t j (by rw [List.mem_range]; lia)
    rw [List.range_succ, ← this]
    rfl
  rintro σ H4 ⟨⟨v4, v5, v6, v7, v8, v9, v10, rfl⟩, te4, hd4, u4⟩
  rw [ql] at te4 hd4
  rw [List.take_length] at te4
  refine ⟨(by show 1 ≤ sizeLine; decide), fun p1 hp1 => ?_⟩
  have s5 := same_new hp1 (.lst [.non])
  refine ⟨_, rfl, pr, _, rfl, .inr (SqT.of (s5 _ _ (u4 _ _ hpr))), p1, qs.length, _, rfl, rfl, upd_same, by lia, by lia, by show 1 * _ ≤ sizeLine; rw [sizeLine_eq]; lia, fun lt hlt => ?_⟩
  have zz : ∀ m : Nat, (List.replicate m [V.non]).flatten = List.replicate m V.non := fun m => by
    induction m with
    | zero => rfl
    | succ m ih => rw [List.replicate_succ, List.flatten_cons, ih, List.replicate_succ]; rfl
  rw [Int.toNat_natCast, zz, ql]
  have s6 := same_new hlt (.lst (List.replicate rs.length V.non))
  have u6 := (u4.trans s5).trans s6
  have te6 := (te4.keep s5).keep s6
  have hd6 := s6 _ _ (s5 _ _ hd4)
  have hl6 := atNew hlt (.lst (List.replicate rs.length V.non))
  have ltA : lt ≠ A1.ls ∧ lt ≠ A1.lp ∧ lt ≠ A1.lc ∧ lt ≠ A1.ln := by
    have te5 := te4.keep s5
    obtain ⟨sp, h1, _⟩ := te5.hp
    exact ⟨(ne_of_none te5.hs hlt).symm, (ne_of_none h1 hlt).symm, (ne_of_none te5.hc hlt).symm, (ne_of_none te5.hn hlt).symm⟩
  have nlt : ∀ {b : Addr} {o : HO}, H b = some o → b ≠ lt := fun e => ne_of_none ((u4.trans s5) _ _ e) hlt
  generalize L2.upd _ lt (.lst (List.replicate rs.length V.non)) = H6 at s6 u6 te6 hd6 hl6 ⊢
  have td6 : TldL H6 (List.replicate rs.length V.non) (a0 N rs).told rs.length := ⟨List.length_replicate, fun i v e => by
    have := List.mem_of_getElem? e
    exact List.eq_of_mem_replicate this⟩
  refine ⟨fun m σ H7 => (∃ w8 w9 w10, σ = [some (.ref A1.r), some (.ref pr), some (.ref A1.t), some (.ref d), v4, v5, v6, some (.ref lt), w8, w9, w10]) ∧ ∃ (a : PSt) (xs : List V), m = pot N.forks.length a.S.spots ∧ Chain N (paceF rs) (a0 N rs) a ∧ PIn N rs.length a ∧ TelAt C H7 A1 N a.S ∧ H7 d = some (.dK (dkL (wayL a.S.spots) a.t)) ∧ H7 lt = some (.lst xs) ∧ TldL H7 xs a.told rs.length ∧ Same H H7,
    ⟨_, ⟨_, _, _, rfl⟩, a0 N rs, _, rfl, .nil _, pi0, te6, by rw [hd6]; show _ = some (HO.dK (dkL (wayL (spots0 N rs)) _)); rw [way0], hl6, td6, u6⟩, ?_⟩
  rintro m σ H7 ⟨⟨w8, w9, w10, rfl⟩, a, xs, rfl, ch, pi, te7, hd7, hl7, td7, u7⟩
  refine ⟨_, rfl, _, .inr (.inr ⟨_, hd7, rfl⟩), ?_⟩
  have wl : (wayL a.S.spots).length ≤ rs.length := by have := pi.fi.cnt; have := pi.ln; lia
  by_cases we : wayL a.S.spots = []
  · rw [show (!(dkL (wayL a.S.spots) a.t).isEmpty) = false by rw [we]; rfl]
    refine iteF ⟨_, rfl, lt, _, rfl, .inl ⟨SqL.of hl7, fun p hp => ?_⟩⟩
    have s8 := same_new hp (.tup xs)
    refine k p a _ (u7.trans s8) ch we pi ⟨xs, upd_same, td7.tups (Tups.of s8), fun i il => ?_⟩
    refine (pi.tl i il).mp ?_
    have : i ∉ wayL a.S.spots := by rw [we]; exact List.not_mem_nil
    cases e : a.S.spots[i]? with
    | none => rw [List.getElem?_eq_none_iff] at e; have := pi.ln; lia
    | some o =>
      cases o with
      | none => rfl
      | some y => exact absurd (way_mem.mpr ⟨y, e⟩) this
  rw [show (!(dkL (wayL a.S.spots) a.t).isEmpty) = true by
    unfold dkL
    cases e : wayL a.S.spots with
    | nil => exact absurd e we
    | cons x y => rfl]
  refine iteT ⟨_, fun σ' H' h => h, ?_⟩
  refine ⟨_, rfl, d, _, rfl, hd7, fun o l hl => ?_⟩
  refine lc_di (d := d) (o := o) (kvs := dkL (wayL a.S.spots) a.t) (fun i acc σ H8 => (∃ u0 u1, σ = [u0, u1]) ∧ Same (L2.upd H7 d (.frz o (.dK (dkL (wayL a.S.spots) a.t)))) H8 ∧ H8 l = some (.lst acc) ∧ acc.length = i ∧ PrL H8 acc (wayL a.S.spots) a.t) ⟨⟨_, _, rfl⟩, same_new hl _, upd_same, rfl, fun i v e => by simp at e⟩ (fun i acc σ H8 z => ⟨z.2.2.1, z.2.1 _ _ upd_same⟩) ?_ ?_
  · rintro i acc σ H8 p T hp hT ⟨⟨u0, u1, rfl⟩, s8, h8, al, pl⟩
    have il : i < (dkL (wayL a.S.spots) a.t).length := (List.getElem?_eq_some_iff.mp hp).1
    obtain ⟨b, hb, rfl⟩ := dk_at hp
    have s9 := same_new hT (.tup [kV (.inl (b : Int)), .int (a.t b)])
    refine ⟨T, _, rfl, SqT.of upd_same, rfl, _, _, rfl, _, _, rfl, rfl, ?_⟩
    refine ⟨_, rfl, _, rfl, by show 2 ≤ sizeLine; decide, fun q hq => ?_⟩
    have s10 := same_new hq (.tup [.int (a.t b), .int (b : Nat)])
    have u10 := s9.trans s10
    have h10 := u10 _ _ h8
    have iw : i < (wayL a.S.spots).length := (List.getElem?_eq_some_iff.mp hb).1
    refine ⟨h10, by rw [al, sizeLine_eq]; lia, nx il ⟨⟨_, _, rfl⟩, fun x u e => ?_, upd_same, by rw [List.length_append, al]; rfl, fun i' v e => ?_⟩⟩
    · rw [upd_ne (ne_of_none e hl)]; exact u10 _ _ (s8 x u e)
    · have tl : Tups _ (L2.upd _ l _) := Tups.lst (ys := acc ++ [.ref q]) h10
      by_cases c : i' < acc.length
      · rw [List.getElem?_append_left c] at e
        exact (pl.same ((Tups.of u10).trans tl)) i' v e
      · rw [List.getElem?_append_right (by lia)] at e
        have i0 : i' - acc.length = 0 := by
          have := (List.getElem?_eq_some_iff.mp e).1
          simp at this; lia
        rw [i0] at e
        obtain rfl := Option.some.inj e
        exact ⟨b, q, by rw [show i' = i by lia]; exact hb, rfl, tl _ _ (atNew hq _)⟩
  rintro acc σ H8 ⟨⟨u0, u1, rfl⟩, s8, h8, al, pl⟩
  have hd8 := s8 _ _ (upd_same (H := H7) (a := d) (o := .frz o (.dK (dkL (wayL a.S.spots) a.t))))
  refine ⟨d, o, _, _, hd7, hd8, ?_⟩
  have s9 : Same H7 (L2.upd H8 d (.dK (dkL (wayL a.S.spots) a.t))) := fun x u e => by
    by_cases c : x = d
    · subst c; rw [upd_same]; rw [hd7] at e; exact e
    · rw [upd_ne c]; exact s8 _ _ (by rw [upd_ne c]; exact e)
  have nld : l ≠ d := by
    rintro rfl
    rw [upd_same] at hl; cases hl
  have h9 : L2.upd H8 d (.dK (dkL (wayL a.S.spots) a.t)) l = some (.lst acc) := by rw [upd_ne nld]; exact h8
  have pl9 : PrL (L2.upd H8 d (.dK (dkL (wayL a.S.spots) a.t))) acc (wayL a.S.spots) a.t := pl.same fun x u e => by rw [upd_ne (ne_of e hd8 (fun z => by cases z))]; exact e
  generalize L2.upd H8 d (.dK (dkL (wayL a.S.spots) a.t)) = H9 at s9 h9 pl9 ⊢
  have dl : (dkL (wayL a.S.spots) a.t).length = (wayL a.S.spots).length := List.length_map ..
  rw [dl] at al
  have prx : ∀ {i : Nat} {x : V} {p q : Int}, acc[i]? = some x → Pr2 H9 x p q → ∃ b : Nat, (wayL a.S.spots)[i]? = some b ∧ p = a.t b ∧ q = b := fun {i x p q} e pr => by
    obtain ⟨b, z, h1, h2, h3⟩ := pl9 i x e
    obtain ⟨z', h4, h5⟩ := pr
    rw [h2] at h4; cases h4
    rw [h3] at h5; cases h5
    exact ⟨b, h1, rfl, rfl⟩
  refine ⟨l, acc, rfl, SqL.of h9, by rw [al]; exact List.length_pos_iff.mpr we, fun x hx => ?_, fun i j x y p q ij hx hy px py => ?_, fun x p q hx px least => ?_⟩
  · obtain ⟨i, il, e⟩ := List.mem_iff_getElem.mp hx
    obtain ⟨b, z, h1, h2, h3⟩ := pl9 i x (by rw [List.getElem?_eq_getElem il, e])
    exact ⟨_, _, z, h2, h3⟩
  · obtain ⟨b, hb, _, eb⟩ := prx hx px
    obtain ⟨c, hc, _, ec⟩ := prx hy py
    have : b = c := by lia
    subst this
    have := (List.getElem?_inj (List.getElem?_eq_some_iff.mp hb).1 (way_nodup _)).mp (hb.trans hc.symm)
    lia
  obtain ⟨i, il, e⟩ := List.mem_iff_getElem.mp hx
  have ex : acc[i]? = some x := by rw [List.getElem?_eq_getElem il, e]
  obtain ⟨b, hb, rfl, rfl⟩ := prx ex px
  have bm : b ∈ wayL a.S.spots := List.mem_of_getElem? hb
  have le : Least a b := ⟨bm, fun c hc => by
    obtain ⟨j, jl, ej⟩ := List.mem_iff_getElem.mp hc
    have hj : (wayL a.S.spots)[j]? = some c := by rw [List.getElem?_eq_getElem jl, ej]
    have ja : j < acc.length := by lia
    obtain ⟨c', z, h1, h2, h3⟩ := pl9 j _ (List.getElem?_eq_getElem ja)
    rw [hj] at h1
    cases h1
    exact least _ (List.getElem_mem ja) _ _ ⟨z, h2, h3⟩⟩
  obtain ⟨z, ez, hz⟩ := px
  subst ez
  refine ⟨z, _, rfl, SqT.of hz, rfl, _, _, rfl, _, _, rfl, rfl, ?_⟩
  have te9 := te7.keep s9
  have hd9 := s9 _ _ hd7
  have hl9 := s9 _ _ hl7
  have td9 := td7.tups (Tups.of s9)
  have u9 := u7.trans s9
  obtain ⟨bn, lane, k0, hs, hlane, hk0⟩ := pi.way bm
  obtain ⟨fw1, fw2⟩ := pi.few
  have pln := pi.ln
  obtain ⟨dx9, ob9⟩ := te9.ob
  refine ⟨_, rfl, A1.t, dx9, _, rfl, ob9, no_s, _, rfl, A1, N, a.S, b, lane, k0, rfl, ok, te9, pi.os, hs, by lia, by lia, fun ke H10 te10 b10 => ?_, fun kl k' H10 nk te10 b10 => ?_⟩
  · have hd10 := b10 _ _ hd9 dA.1 dA.2.1 dA.2.2.1 dA.2.2.2
    have hl10 := b10 _ _ hl9 ltA.1 ltA.2.1 ltA.2.2.1 ltA.2.2.2
    have u10 := sBut u9 b10
    have td10 := td9.tups (te9.tupk b10)
    have ad : Adv N (paceF rs) a b _ := ⟨lane, k0, hs, .inl ⟨ke, rfl⟩⟩
    obtain ⟨pi2, pt2⟩ := pi.adv ok ad
    refine ⟨_, rfl, rfl, _, rfl, ?_⟩
    rw [decide_eq_false (fun z => by cases z)]
    refine iteF ?_
    have ee : endN N lane < N.lanes := end_lt ok hlane
    have em : (((endN N lane + N.lanes * a.S.came.getD (endN N lane) 0 : Nat)) : Int) % ((N.lanes : Nat) : Int) = ((endN N lane : Nat) : Int) := by
      rw [← Int.natCast_emod, Nat.add_mul_mod_self_left, Nat.mod_eq_of_lt ee]
    refine ⟨_, rfl, _, rfl, _, rfl, A1.r, _, 0, _, rfl, rfl, SqT.of te10.na.net, rfl, _, _, rfl, rfl, by lia, _, rfl, by show 3 ≤ sizeLine; decide, fun q hq => ?_⟩
    dsimp only
    rw [em]
    have s11 := same_new hq (.tup [.int (endN N lane + N.lanes * a.S.came.getD (endN N lane) 0 : Nat), .int (endN N lane : Nat), .int (a.t b)])
    have xl : b < xs.length := by rw [td10.1]; exact bn
    refine ⟨_, rfl, _, rfl, lt, _, _, b, rfl, rfl, s11 _ _ hl10, ix_at xl, ?_⟩
    have hd11 := s11 _ _ hd10
    have hl11 := s11 _ _ hl10
    have ntd : d ≠ lt := ne_of hd11 hl11 (fun z => by cases z)
    have tpl := Tups.lst (ys := xs.set b (.ref q)) hl11
    have td12 := ((td10.tups (Tups.of s11)).tups tpl).put (b := b) (v := .ref q) (o := some (endN N lane + N.lanes * a.S.came.getD (endN N lane) 0, endN N lane, a.t b)) ⟨q, rfl, tpl _ _ (atNew hq _)⟩
    have te12 : TelAt C (L2.upd (L2.upd H10 q (.tup [.int (endN N lane + N.lanes * a.S.came.getD (endN N lane) 0 : Nat), .int (endN N lane : Nat), .int (a.t b)])) lt (.lst (xs.set b (.ref q)))) A1 N (outT N a.S b lane) := by
      have te11 := te10.keep s11
      obtain ⟨dx, e⟩ := te11.ob
      obtain ⟨sp, h1, h2⟩ := te11.hp
      exact ⟨⟨dx, by rw [upd_ne (ne_of e hl11 (fun z => by cases z))]; exact e⟩, te11.na.tups tpl, by rw [upd_ne ltA.1.symm]; exact te11.hs, ⟨sp, by rw [upd_ne ltA.2.1.symm]; exact h1, h2.tups tpl⟩, by rw [upd_ne ltA.2.2.1.symm]; exact te11.hc, by rw [upd_ne ltA.2.2.2.symm]; exact te11.hn, te11.d1, te11.d2, te11.d3, te11.d4, te11.d5, te11.d6⟩
    have u12 : Same H (L2.upd (L2.upd H10 q (.tup [.int (endN N lane + N.lanes * a.S.came.getD (endN N lane) 0 : Nat), .int (endN N lane : Nat), .int (a.t b)])) lt (.lst (xs.set b (.ref q)))) := fun x u e => by
      rw [upd_ne (nlt e)]; exact (u10.trans s11) x u e
    have hd12 : L2.upd (L2.upd H10 q (.tup [.int (endN N lane + N.lanes * a.S.came.getD (endN N lane) 0 : Nat), .int (endN N lane : Nat), .int (a.t b)])) lt (.lst (xs.set b (.ref q))) d = _ := (upd_ne ntd).trans hd11
    have hl12 : L2.upd (L2.upd H10 q (.tup [.int (endN N lane + N.lanes * a.S.came.getD (endN N lane) 0 : Nat), .int (endN N lane : Nat), .int (a.t b)])) lt (.lst (xs.set b (.ref q))) lt = _ := upd_same
    generalize L2.upd (L2.upd H10 q _) lt (.lst (xs.set b (.ref q))) = H12 at td12 te12 u12 hd12 hl12 ⊢
    refine ⟨_, rfl, _, rfl, d, _, .inl (b : Nat), rfl, hd12, rfl, dk_val _ _ _ bm, ?_⟩
    rw [dk_drop]
    refine ⟨_, by lia, ⟨_, _, _, rfl⟩, _, xs.set b (.ref q), rfl, ch.snoc le ad, pi2, tel_dict te12 hd12 _, ?_, (upd_ne ntd.symm).trans hl12, td12.tups fun x u e => by rw [upd_ne (ne_of e hd12 (fun z => by cases z))]; exact e, sUpd _ u12⟩
    rw [upd_same]
    show _ = some (HO.dK (dkL (wayL (a.S.spots.set b none)) a.t))
    rw [way_none]
  · have hd10 := b10 _ _ hd9 dA.1 dA.2.1 dA.2.2.1 dA.2.2.2
    have hl10 := b10 _ _ hl9 ltA.1 ltA.2.1 ltA.2.2.1 ltA.2.2.2
    have u10 := sBut u9 b10
    have td10 := td9.tups (te9.tupk b10)
    have ad : Adv N (paceF rs) a b _ := ⟨lane, k0, hs, .inr ⟨kl, k', nk, rfl⟩⟩
    obtain ⟨pi2, pt2⟩ := pi.adv ok ad
    refine ⟨_, rfl, rfl, _, rfl, ?_⟩
    rw [decide_eq_true rfl]
    refine iteT ?_
    obtain ⟨p, hq1, hq2⟩ := (ra.tups (Tups.of u10)).at_ bn
    refine ⟨_, rfl, _, rfl, _, rfl, pr, _, _, _, rfl, rfl, SqT.of (u10 _ _ hpr), atI_nat hq1, p, _, 2, _, rfl, rfl, SqT.of hq2, rfl, _, _, rfl, rfl, ?_⟩
    refine ⟨_, rfl, _, rfl, d, _, rfl, DPut.k (k := .inl (b : Nat)) hd10 (by rw [dl, sizeLine_eq]; lia), ?_⟩
    have ntd : d ≠ lt := ne_of hd10 hl10 (fun z => by cases z)
    refine ⟨_, by lia, ⟨_, _, _, rfl⟩, _, xs, rfl, ch.snoc le ad, pi2, tel_dict te10 hd10 _, ?_, (upd_ne ntd.symm).trans hl10, td10.tups fun x u e => by rw [upd_ne (ne_of e hd10 (fun z => by cases z))]; exact e, sUpd _ u10⟩
    rw [upd_same]
    show _ = some (HO.dK (dkL (wayL (a.S.spots.set b (some (onT N a.S b k0, k')))) (put1 a.t b (a.t b + paceF rs b))))
    rw [way_go hs, ← dk_put _ _ _ bm]
    rfl
end
end K97
end
section
set_option maxHeartbeats 4000001
namespace Bn
open PySem L2 Own
theorem val_of_mem {kvs : List (Key × V)} {k : Key} {v : V} (nd : (kvs.map (·.1)).Nodup) (h : (k, v) ∈ kvs) : valV kvs k = some v := by
  induction kvs with
  | nil => cases h
  | cons p r ih =>
    rw [List.map_cons, List.nodup_cons] at nd
    rcases List.mem_cons.mp h with rfl | z
    · exact valV_pos rfl
    · rw [valV_neg (fun e => nd.1 (List.mem_map.mpr ⟨_, z, e.symm⟩))]
      exact ih nd.2 z
theorem merge_new : ∀ (more kvs : List (Key × V)), ((kvs ++ more).map (·.1)).Nodup → mergeK kvs more = kvs ++ more
  | [], kvs, _ => (List.append_nil _).symm
  | p :: r, kvs, nd => by
    have e : putK kvs p.1 p.2 = kvs ++ [p] := put_new fun q hq z => by
      rw [List.map_append, List.nodup_append] at nd
      exact nd.2.2 _ (List.mem_map.mpr ⟨q, hq, rfl⟩) _ (List.mem_map.mpr ⟨p, .head _, rfl⟩) z
    show mergeK (putK kvs p.1 p.2) r = _
    rw [e, merge_new r (kvs ++ [p]) (by rw [List.append_assoc]; exact nd), List.append_assoc]; rfl
structure DueK (H : Hp) (N : Nt) (kvs : List (Key × V)) (a : PSt) : Prop where
  nd : (kvs.map (·.1)).Nodup
  mem : ∀ p ∈ kvs, ∃ (b : Nat) (q : Addr) (lane k ahead : Nat), p = (.inl (b : Int), .ref q) ∧ a.S.spots[b]? = some (some (lane, k)) ∧ H q = some (.tup [.int (a.t b), .int (lane : Nat), .int (ahead : Nat)]) ∧ IsNext N.forks lane ahead k
  all : ∀ b ∈ wayL a.S.spots, ∃ v, ((.inl (b : Int) : Key), v) ∈ kvs
  len : kvs.length ≤ a.S.spots.length
theorem DueK.tups {H H' : Hp} {N : Nt} {kvs : List (Key × V)} {a : PSt} (h : DueK H N kvs a) (t : Tups H H') : DueK H' N kvs a := ⟨h.nd, fun p hp => by
  obtain ⟨b, q, lane, k, ahead, h1, h2, h3, h4⟩ := h.mem p hp
  exact ⟨b, q, lane, k, ahead, h1, h2, t _ _ h3, h4⟩, h.all, h.len⟩
theorem DueK.at_ {H : Hp} {N : Nt} {kvs : List (Key × V)} {a : PSt} (h : DueK H N kvs a) {b : Nat} (hb : b ∈ wayL a.S.spots) : ∃ (q : Addr) (lane k ahead : Nat), valV kvs (.inl (b : Int)) = some (.ref q) ∧ a.S.spots[b]? = some (some (lane, k)) ∧ H q = some (.tup [.int (a.t b), .int (lane : Nat), .int (ahead : Nat)]) ∧ IsNext N.forks lane ahead k := by
  obtain ⟨v, hv⟩ := h.all b hb
  obtain ⟨b', q, lane, k, ahead, h1, h2, h3, h4⟩ := h.mem _ hv
  have e1 : (b : Int) = b' := Sum.inl.inj (congrArg Prod.fst h1)
  have eb : b' = b := by lia
  subst eb
  have e2 : v = .ref q := congrArg Prod.snd h1
  subst e2
  exact ⟨q, lane, k, ahead, val_of_mem h.nd hv, h2, h3, h4⟩
theorem DueK.empty {H : Hp} {N : Nt} {a : PSt} (h : DueK H N [] a) : wayL a.S.spots = [] := List.eq_nil_iff_forall_not_mem.mpr fun b hb => by
  obtain ⟨v, hv⟩ := h.all b hb
  exact List.not_mem_nil hv
theorem drop_mem {kvs : List (Key × V)} {k : Key} {p : Key × V} : p ∈ dropK kvs k ↔ p ∈ kvs ∧ p.1 ≠ k := by
  unfold dropK
  rw [List.mem_filter, decide_eq_true_iff]
theorem drop_nd {kvs : List (Key × V)} {k : Key} (h : (kvs.map (·.1)).Nodup) : ((dropK kvs k).map (·.1)).Nodup := by
  unfold dropK
  exact h.sublist (List.filter_sublist.map _)
theorem DueK.out {H : Hp} {N : Nt} {kvs : List (Key × V)} {a : PSt} (h : DueK H N kvs a) {b lane : Nat} {told : Nat → Option (Nat × Nat × Int)} : DueK H N (dropK kvs (.inl (b : Int))) ⟨outT N a.S b lane, a.t, told⟩ := by
  refine ⟨drop_nd h.nd, fun p hp => ?_, fun c hc => ?_, ?_⟩
  · obtain ⟨p1, p2⟩ := drop_mem.mp hp
    obtain ⟨c, q, lane', k, ahead, rfl, h2, h3, h4⟩ := h.mem p p1
    have cb : b ≠ c := fun z => p2 (by rw [z])
    exact ⟨c, q, lane', k, ahead, rfl, by show (a.S.spots.set b none)[c]? = _; rw [List.getElem?_set_ne cb]; exact h2, h3, h4⟩
  · replace hc : c ∈ wayL (a.S.spots.set b none) := hc
    rw [way_none, List.mem_filter, decide_eq_true_iff] at hc
    obtain ⟨v, hv⟩ := h.all c hc.1
    exact ⟨v, drop_mem.mpr ⟨hv, fun z => hc.2 (by have := Sum.inl.inj z; lia)⟩⟩
  · show _ ≤ (a.S.spots.set b none).length
    rw [List.length_set]
    exact Nat.le_trans (List.length_filter_le _ _) h.len
theorem DueK.go {H : Hp} {N : Nt} {kvs : List (Key × V)} {a : PSt} (h : DueK H N kvs a) {b lane k k' : Nat} {t' : Nat → Int} {told : Nat → Option (Nat × Nat × Int)} {q : Addr} {m : Int} (hs : a.S.spots[b]? = some (some (lane, k))) (ht : t' = put1 a.t b m) (nk : IsNext N.forks (onT N a.S b k) (k + 1) k') (hq : H q = some (.tup [.int m, .int (onT N a.S b k : Nat), .int ((k : Nat) + 1)])) :
    DueK H N (putK (dropK kvs (.inl (b : Int))) (.inl (b : Int)) (.ref q)) ⟨goT N a.S b k k', t', told⟩ := by
  have bl := (List.getElem?_eq_some_iff.mp hs).1
  have e : putK (dropK kvs (.inl (b : Int))) (.inl (b : Int)) (.ref q) = dropK kvs (.inl (b : Int)) ++ [(.inl (b : Int), .ref q)] := put_new fun p hp => (drop_mem.mp hp).2
  rw [e]
  refine ⟨?_, fun p hp => ?_, fun c hc => ?_, ?_⟩
  · rw [List.map_append]
    rw [List.nodup_append]
    refine ⟨drop_nd h.nd, List.nodup_cons.mpr ⟨List.not_mem_nil, List.nodup_nil⟩, fun x hx y hy z => ?_⟩
    obtain ⟨p, hp, rfl⟩ := List.mem_map.mp hx
    have := List.mem_singleton.mp hy
    exact (drop_mem.mp hp).2 (z.trans this)
  · rcases List.mem_append.mp hp with z | z
    · obtain ⟨p1, p2⟩ := drop_mem.mp z
      obtain ⟨c, r, lane', k2, ahead, rfl, h2, h3, h4⟩ := h.mem p p1
      have cb : b ≠ c := fun z => p2 (by rw [z])
      refine ⟨c, r, lane', k2, ahead, rfl, by show (a.S.spots.set b _)[c]? = _; rw [List.getElem?_set_ne cb]; exact h2, ?_, h4⟩
      show H r = some (.tup [.int (t' c), _, _])
      rw [h3, ht, put1_ne (fun z => cb z.symm)]
    · have := List.mem_singleton.mp z
      subst this
      refine ⟨b, q, onT N a.S b k, k', k + 1, rfl, by show (a.S.spots.set b _)[b]? = _; rw [List.getElem?_set_self bl], ?_, nk⟩
      show H q = some (.tup [.int (t' b), _, _])
      rw [hq, ht, put1_same]; rfl
  · replace hc : c ∈ wayL (a.S.spots.set b (some (onT N a.S b k, k'))) := hc
    rw [way_go hs] at hc
    by_cases cb : c = b
    · subst cb; exact ⟨.ref q, List.mem_append.mpr (.inr (List.mem_singleton.mpr rfl))⟩
    · obtain ⟨v, hv⟩ := h.all c hc
      exact ⟨v, List.mem_append.mpr (.inl (drop_mem.mpr ⟨hv, fun z => cb (by have := Sum.inl.inj z; lia)⟩))⟩
  · show _ ≤ (a.S.spots.set b _).length
    rw [List.length_set, List.length_append]
    have l := h.len
    obtain ⟨v, hv⟩ := h.all b (way_mem.mpr ⟨_, hs⟩)
    have : (dropK kvs (.inl (b : Int))).length < kvs.length := List.length_filter_lt_length_iff_exists.mpr ⟨_, hv, by simp⟩
    show _ + 1 ≤ _
    lia
def FndK (H : Hp) (kvs : List (Key × V)) (told : Nat → Option (Nat × Nat × Int)) : Prop := ∀ (b n e : Nat) (m : Int), told b = some (n, e, m) → ∃ q, valV kvs (.inl (b : Int)) = some (.ref q) ∧ H q = some (.tup [.int (n : Nat), .int (e : Nat), .int m])
theorem FndK.tups {H H' : Hp} {kvs : List (Key × V)} {told : Nat → Option (Nat × Nat × Int)} (h : FndK H kvs told) (t : Tups H H') : FndK H' kvs told := fun b n e m z => by
  obtain ⟨q, h1, h2⟩ := h b n e m z
  exact ⟨q, h1, t _ _ h2⟩
theorem FndK.put {H : Hp} {kvs : List (Key × V)} {told : Nat → Option (Nat × Nat × Int)} (h : FndK H kvs told) {b n e : Nat} {m : Int} {q : Addr} (hq : H q = some (.tup [.int (n : Nat), .int (e : Nat), .int m])) : FndK H (putK kvs (.inl (b : Int)) (.ref q)) (put1 told b (some (n, e, m))) := fun c n' e' m' z => by
  rw [valV_put]
  by_cases cb : c = b
  · subst cb
    rw [put1_same] at z
    cases z
    rw [if_pos rfl]
    exact ⟨q, rfl, hq⟩
  · rw [put1_ne cb] at z
    rw [if_neg (fun y => cb (by have := Sum.inl.inj y; lia))]
    exact h c n' e' m' z
theorem lf_low (fs : List (Nat × Nat)) (lane ahead : Nat) : ∀ j, j ≤ ahead → lfL fs lane ((ahead : Int) - 1) j = []
  | 0, _ => rfl
  | j + 1, h => by
    rw [lf_succ, lf_low fs lane ahead j (by lia), decide_eq_false (by lia), Bool.false_and, if_neg Bool.false_ne_true]; rfl
theorem lf_ahead {fs : List (Nat × Nat)} {lane k ahead : Nat} (h : IsNext fs lane ahead k) : (k = fs.length → lfL fs lane ((ahead : Int) - 1) fs.length = []) ∧ (k < fs.length → ∃ r, lfL fs lane ((ahead : Int) - 1) fs.length = k :: r) :=
  lf_next (by lia) (by rw [show ((ahead : Int) - 1 + 1).toNat = ahead by lia]; exact h)
end Bn
end
section
set_option maxHeartbeats 4000001
namespace K97
open PySem L2 Own Bn
abbrev sLRan : Stmt := top 23
theorem reps (n : Nat) : (List.replicate n [V.int 0]).flatten = nums (List.replicate n 0) := by
  induction n with
  | zero => rfl
  | succ n ih => rw [List.replicate_succ, List.flatten_cons, ih, List.replicate_succ]; rfl
structure LrAt (H : Hp) (N : Nt) (ltn lcm dd df : Addr) (a : PSt) : Prop where
  ht : H ltn = some (.lst (nums a.S.sets))
  hc : H lcm = some (.lst (nums a.S.came))
  hd : ∃ kvs, H dd = some (.dK kvs) ∧ DueK H N kvs a
  hf : ∃ kvs, H df = some (.dK kvs) ∧ FndK H kvs a.told ∧ kvs.length ≤ a.S.nms.length
  n1 : ltn ≠ lcm
  n2 : dd ≠ df
theorem LrAt.same {H H' : Hp} {N : Nt} {ltn lcm dd df : Addr} {a : PSt} (h : LrAt H N ltn lcm dd df a) (s : Same H H') : LrAt H' N ltn lcm dd df a := by
  obtain ⟨k1, a1, a2⟩ := h.hd
  obtain ⟨k2, b1, b2, b3⟩ := h.hf
  exact ⟨s _ _ h.ht, s _ _ h.hc, ⟨k1, s _ _ a1, a2.tups (Tups.of s)⟩, ⟨k2, s _ _ b1, b2.tups (Tups.of s), b3⟩, h.n1, h.n2⟩
theorem put_len (kvs : List (Key × V)) (k : Key) (v : V) : (putK kvs k v).length ≤ kvs.length + 1 := by
  unfold putK
  split
  · rw [List.length_map]; lia
  · rw [List.length_append]; exact Nat.le_refl _
def keyN : Key → Int
  | .inl n => n
  | .inr _ => 0
def sel (now : Int) (a : PSt) (kvs : List (Key × V)) : List Int := (kvs.map fun p => keyN p.1).filter fun n => decide (a.t n.toNat = now)
theorem sel_snoc (now : Int) (a : PSt) (kvs : List (Key × V)) {i : Nat} {p : Key × V} (h : kvs[i]? = some p) : sel now a (kvs.take (i + 1)) = sel now a (kvs.take i) ++ (if decide (a.t (keyN p.1).toNat = now) = true then [keyN p.1] else []) := by
  unfold sel
  rw [List.take_succ, h, Option.toList_some, List.map_append, List.filter_append]
  congr 1
  rw [List.map_cons, List.map_nil, List.filter_cons, List.filter_nil]
theorem sel_len (now : Int) (a : PSt) (kvs : List (Key × V)) : (sel now a kvs).length ≤ kvs.length := Nat.le_trans (List.length_filter_le _ _) (by rw [List.length_map]; exact Nat.le_refl _)
theorem due_nums {H : Hp} {N : Nt} {kvs : List (Key × V)} {a : PSt} (h : DueK H N kvs a) : (kvs.map fun p => keyN p.1).Nodup := by
  have e : (kvs.map fun p => keyN p.1) = (kvs.map (·.1)).map keyN := by rw [List.map_map]; rfl
  rw [e]
  refine List.pairwise_map.mpr (List.Pairwise.imp_of_mem (fun {x y} hx hy n z => ?_) h.nd)
  obtain ⟨p, hp, rfl⟩ := List.mem_map.mp hx
  obtain ⟨q, hq, rfl⟩ := List.mem_map.mp hy
  obtain ⟨b, _, _, _, _, rfl, _⟩ := h.mem p hp
  obtain ⟨c, _, _, _, _, rfl, _⟩ := h.mem q hq
  exact n (by have : (b : Int) = c := z; rw [this])
theorem batch_of {H : Hp} {N : Nt} {kvs : List (Key × V)} {a : PSt} {now : Int} {ms : List Int} (h : DueK H N kvs a) (low : ∀ b ∈ wayL a.S.spots, now ≤ a.t b) (pm : ms.Perm (sel now a kvs)) (so : ms.Pairwise (· ≤ ·)) : ∃ bs : List Nat, ms = bs.map (fun (b : Nat) => (b : Int)) ∧ Batch now bs a := by
  have mm : ∀ x ∈ ms, ∃ b : Nat, x = b ∧ b ∈ wayL a.S.spots ∧ a.t b = now := fun x hx => by
    obtain ⟨m1, m2⟩ := List.mem_filter.mp (pm.mem_iff.mp hx)
    obtain ⟨p, hp, rfl⟩ := List.mem_map.mp m1
    obtain ⟨b, q, lane, k, ahead, rfl, h2, _⟩ := h.mem p hp
    exact ⟨b, rfl, way_mem.mpr ⟨_, h2⟩, of_decide_eq_true m2⟩
  have nd : ms.Nodup := pm.nodup_iff.mpr ((due_nums h).sublist List.filter_sublist)
  have e : ms = (ms.map Int.toNat).map fun (b : Nat) => (b : Int) := by
    rw [List.map_map]
    refine (List.map_id ms).symm.trans (List.map_congr_left fun x hx => ?_)
    obtain ⟨b, rfl, _⟩ := mm x hx
    rfl
  refine ⟨ms.map Int.toNat, e, ⟨List.pairwise_map.mpr ?_, fun b hb => ?_, fun c hc => ⟨low c hc, fun z => ?_⟩⟩⟩
  · refine List.Pairwise.imp_of_mem (fun {x y} hx hy n => ?_) (so.and nd)
    obtain ⟨b, rfl, _⟩ := mm x hx
    obtain ⟨c, rfl, _⟩ := mm y hy
    have := n.1
    have := n.2
    lia
  · obtain ⟨x, hx, rfl⟩ := List.mem_map.mp hb
    obtain ⟨b, rfl, h1, h2⟩ := mm x hx
    exact ⟨h1, h2⟩
  · obtain ⟨v, hv⟩ := h.all c hc
    refine List.mem_map.mpr ⟨(c : Int), pm.mem_iff.mpr (List.mem_filter.mpr ⟨List.mem_map.mpr ⟨_, hv, rfl⟩, decide_eq_true z⟩), rfl⟩
theorem due0 {H : Hp} {N : Nt} {rs : List RunP} {kvs : List (Key × V)} (l : kvs.length = rs.length) (h : ∀ (j : Nat) p, kvs[j]? = some p → ∃ q, p = (.inl (j : Int), .ref q) ∧ H q = some (.tup [.int (rs.getD j default).start, .int ((rs.getD j default).lane : Nat), .int 0])) : DueK H N kvs (a0 N rs) := by
  refine ⟨List.pairwise_map.mpr (List.pairwise_iff_getElem.mpr fun i j hi hj ij z => ?_), fun p hp => ?_, fun b hb => ?_, by show _ ≤ (spots0 N rs).length; unfold spots0; rw [List.length_map]; lia⟩
  · obtain ⟨q, e, _⟩ := h i _ (List.getElem?_eq_getElem hi)
    obtain ⟨q', e', _⟩ := h j _ (List.getElem?_eq_getElem hj)
    rw [e, e'] at z
    have := Sum.inl.inj z
    lia
  · obtain ⟨j, jl, e⟩ := List.mem_iff_getElem.mp hp
    obtain ⟨q, e1, e2⟩ := h j p (by rw [List.getElem?_eq_getElem jl, e])
    have er : rs[j]? = some (rs.getD j default) := by rw [List.getD_eq_getElem?_getD, List.getElem?_eq_getElem (by lia)]; rfl
    exact ⟨j, q, _, _, 0, e1, spots0_at N rs er, e2, nxt_is _ _⟩
  · replace hb : b ∈ wayL (spots0 N rs) := hb
    rw [way0, List.mem_range] at hb
    obtain ⟨q, e1, _⟩ := h b _ (List.getElem?_eq_getElem (by lia : b < kvs.length))
    exact ⟨.ref q, e1 ▸ List.getElem_mem _⟩
section
variable {P : Program} {w : World} {K : PySem.W.Frag} {mg : Str → Option Value} {base : Heap} {C : Addr}
theorem scLr : FnScope ["_law_net_here", "_law_runs_here", "_law_turns", "_law_came", "_law_due", "_law_found", "_law_now", "_law_ball", "_law_moment", "_law_lane", "_law_ahead", "_law_some", "_law_end", "_law_fork"] ["_law_net_here", "_law_runs_here"] (defScope sLRan) := ⟨rfl, rfl, rfl, by decide +kernel, rfl, by decide +kernel, by decide +kernel⟩
theorem ok_lran {f : Addr} {fd : FuncData} (F : Fun K "_law_ran" "_law_ran" sLRan f fd) (G : Mgs mg) (GD : MgD mg) : FnOk P w K mg base CX0 1 f fd ["_law_net_here", "_law_runs_here"] spRan := by
  refine F.ok scLr (fun vs H Q E h => ?_) (fun cdv A outer s H vs Q E hr h => ?_)
  · obtain ⟨r, fr, er, ps, N, pr, qs, rs, rfl, _⟩ := h
    rfl
  obtain ⟨r, fr, er, ps, N, pr, qs, rs, rfl, ok, na, hpr, ra, r100, rok, k⟩ := h
  refine ⟨_, (@pss_cons _ _ _ _ _ (@ps_par _ _ 2 3 _ _ _ _ _ _ _ _ _ _ _ rfl scLr.nd rfl rfl (by decide) rfl rfl (@pa_cons _ _ _ _ _ (@pe_op _ _ _ _ _ _ _ _ op_rep (@pe_lst _ _ _ _ (@pa_cons _ _ _ _ _ pe_int pa_nil (by rfl))) (@pe_callB _ _ _ _ _ _ _ _ _ call_len_seq (by rfl) G.len PySem.boot_len (@pa_cons _ _ _ _ _ (@pe_ix _ _ _ _ _ _ _ ix_tup (@pv _ 0 _ _ (by rfl) (by first | exact Or.inl rfl | exact Or.inr (Or.inl rfl) | exact Or.inr (Or.inr rfl)) (by decide) (by decide)) pe_int (fun _ _ => rfl)) pa_nil (by rfl)) (by decide) (by decide) (by rfl) (by rfl))) (@pa_cons _ _ _ _ _ (@pe_op _ _ _ _ _ _ _ _ op_rep (@pe_lst _ _ _ _ (@pa_cons _ _ _ _ _ pe_int pa_nil (by rfl))) (@pe_ix _ _ _ _ _ _ _ ix_tup (@pv _ 0 _ _ (by rfl) (by first | exact Or.inl rfl | exact Or.inr (Or.inl rfl) | exact Or.inr (Or.inr rfl)) (by decide) (by decide)) pe_int (fun _ _ => rfl))) pa_nil (by rfl)) (by rfl)) (by rfl) (by rfl)) (@pss_cons _ _ _ _ _ (@ps_set _ _ 4 _ _ _ _ scLr.nd rfl (Or.inr rfl) (@pe_callTy _ _ _ _ _ _ _ _ _ (call_dictP rfl) (by rfl) GD.dict (by rfl) (@pa_cons _ _ _ _ _ (@pe_lc _ _ _ _ none _ _ _ (gTup K 2 (gCons (gName 0) (gCons (gName 1) gNil))) _ _ ["_law_ball", "_law_run"] [none, none] rfl (@pi_enum _ _ _ _ _ _ _ _ false rfl G.enum (@pa_cons _ _ _ _ _ (@pv _ 1 _ _ (by rfl) (by first | exact Or.inl rfl | exact Or.inr (Or.inl rfl) | exact Or.inr (Or.inr rfl)) (by decide) (by decide)) pa_nil (by rfl)) (by rfl)) (CapOk.of (by kernel_rfl)) (fun _ _ _ _ _ => (@pg_tup _ _ _ _ _ _ rfl (@pgs_cons _ _ _ _ _ (@pg_name _ _ 0 _ (show (["_law_ball", "_law_run"] : List Str).Nodup from by decide +kernel) rfl (Or.inl rfl) (Or.inr rfl)) (@pgs_cons _ _ _ _ _ (@pg_name _ _ 1 _ (show (["_law_ball", "_law_run"] : List Str).Nodup from by decide +kernel) rfl (Or.inl rfl) (Or.inr rfl)) pgs_nil (by rfl)) (by rfl)) (by rfl) (by rfl))) (fun _ _ _ _ _ => pt_none) (fun _ _ _ _ _ => (@pe_tup _ _ _ _ _ (@pa_cons _ _ _ _ _ (@pv _ 0 _ _ (by rfl) (by first | exact Or.inl rfl | exact Or.inr (Or.inl rfl) | exact Or.inr (Or.inr rfl)) (by decide) (by decide)) (@pa_cons _ _ _ _ _ (@pe_tup _ _ _ _ _ (@pa_cons _ _ _ _ _ (@pe_ix _ _ _ _ _ _ (rIxT K) ix_tup (@pv _ 1 _ _ (by rfl) (by first | exact Or.inl rfl | exact Or.inr (Or.inl rfl) | exact Or.inr (Or.inr rfl)) (by decide) (by decide)) pe_int (fun _ _ => rfl)) (@pa_cons _ _ _ _ _ (@pe_ix _ _ _ _ _ _ (rIxT K) ix_tup (@pv _ 1 _ _ (by rfl) (by first | exact Or.inl rfl | exact Or.inr (Or.inl rfl) | exact Or.inr (Or.inr rfl)) (by decide) (by decide)) pe_int (fun _ _ => rfl)) (@pa_cons _ _ _ _ _ pe_int pa_nil (by rfl)) (by rfl)) (by rfl))) pa_nil (by rfl)) (by rfl)))) (by intro _; rfl)) pa_nil (by rfl)) (by decide) (by decide) (by rfl) (by rfl)) (by rfl) (by first | exact .inl rfl | exact .inr rfl | assumption)) (@pss_cons _ _ _ _ _ (@ps_set _ _ 5 _ _ _ _ scLr.nd rfl (Or.inr rfl) pe_dnewK (by rfl) (by first | exact .inl rfl | exact .inr rfl | assumption)) (@pss_cons _ _ _ _ _ (@ps_while _ _ _ _ _ _ PassesOwn.never (@pt_cmpR _ _ _ _ _ _ _ _ (op_neDE hr.units0) (@pv _ 4 _ _ (by rfl) (by first | exact Or.inl rfl | exact Or.inr (Or.inl rfl) | exact Or.inr (Or.inr rfl)) (by decide) (by decide)) pe_dnewK (nomark _)) (@pss_cons _ _ _ _ _ (@ps_set _ _ 6 _ _ _ _ scLr.nd rfl (Or.inr rfl) (@pe_callB _ _ _ _ _ _ _ _ _ (call_minB rfl true) (by rfl) G.min (by rfl) (@pa_cons _ _ _ _ _ (@pe_thaw _ _ _ (@pe_lc _ _ _ _ none _ _ _ (gTup K 3 (gCons (gName 0) (gCons (gName 1) (gCons (gName 2) gNil)))) _ _ ["_law_moment", "_law_lane", "_law_ahead"] [none, none, none] rfl (@pi_dvals _ _ _ _ _ _ (@pv _ 4 _ _ (by rfl) (by first | exact Or.inl rfl | exact Or.inr (Or.inl rfl) | exact Or.inr (Or.inr rfl)) (by decide) (by decide)) (by rfl) (by rfl)) (CapOk.of (by kernel_rfl)) (fun _ _ _ _ _ => (@pg_tup _ _ _ _ _ _ rfl (@pgs_cons _ _ _ _ _ (@pg_name _ _ 0 _ (show (["_law_moment", "_law_lane", "_law_ahead"] : List Str).Nodup from by decide +kernel) rfl (Or.inl rfl) (Or.inr rfl)) (@pgs_cons _ _ _ _ _ (@pg_name _ _ 1 _ (show (["_law_moment", "_law_lane", "_law_ahead"] : List Str).Nodup from by decide +kernel) rfl (Or.inl rfl) (Or.inr rfl)) (@pgs_cons _ _ _ _ _ (@pg_name _ _ 2 _ (show (["_law_moment", "_law_lane", "_law_ahead"] : List Str).Nodup from by decide +kernel) rfl (Or.inl rfl) (Or.inr rfl)) pgs_nil (by rfl)) (by rfl)) (by rfl)) (by rfl) (by rfl))) (fun _ _ _ _ _ => pt_none) (fun _ _ _ _ _ => (@pv _ 0 _ _ (by rfl) (by first | exact Or.inl rfl | exact Or.inr (Or.inl rfl) | exact Or.inr (Or.inr rfl)) (by decide) (by decide))) (by intro _; rfl))) pa_nil (by rfl)) (by decide) (by decide) (by rfl) (by rfl)) (by rfl) (by first | exact .inl rfl | exact .inr rfl | assumption)) (@pss_one _ _ _ (@ps_for _ _ _ _ _ _ _ _ PassesOwn.never rfl (@pi_list _ _ _ _ (@pe_callB _ _ _ _ _ _ _ _ _ (call_sortedB true) (by rfl) G.sorted (by rfl) (@pa_cons _ _ _ _ _ (@pe_thaw _ _ _ (@pe_lc _ _ _ _ (some _) _ _ _ _ _ _ ["_law_one", "_law_now", "_law_due"] [none, some 6, some 4] rfl (@pi_dict _ _ _ _ (@pv _ 4 _ _ (by rfl) (by first | exact Or.inl rfl | exact Or.inr (Or.inl rfl) | exact Or.inr (Or.inr rfl)) (by decide) (by decide))) (CapOk.of (by kernel_rfl)) (fun _ _ _ _ _ => (@pg_name _ _ 0 _ (show (["_law_one", "_law_now", "_law_due"] : List Str).Nodup from by decide +kernel) rfl (Or.inl rfl) (Or.inr rfl))) (fun _ _ _ _ _ => (@pt_some _ _ _ (@pt_cmpR _ _ _ _ _ _ _ _ op_eq (@pe_ix _ _ _ _ _ _ (rIxT K) ix_tup (@pe_dget _ _ _ _ _ _ hr.u1 (@pv _ 2 _ _ (by rfl) (by first | exact Or.inl rfl | exact Or.inr (Or.inl rfl) | exact Or.inr (Or.inr rfl)) (by decide) (by decide)) (@pv _ 0 _ _ (by rfl) (by first | exact Or.inl rfl | exact Or.inr (Or.inl rfl) | exact Or.inr (Or.inr rfl)) (by decide) (by decide)) (fun _ _ => rfl)) pe_int (fun _ _ => rfl)) (@pv _ 1 _ _ (by rfl) (by first | exact Or.inl rfl | exact Or.inr (Or.inl rfl) | exact Or.inr (Or.inr rfl)) (by decide) (by decide)) (nomark _)))) (fun _ _ _ _ _ => (@pv _ 0 _ _ (by rfl) (by first | exact Or.inl rfl | exact Or.inr (Or.inl rfl) | exact Or.inr (Or.inr rfl)) (by decide) (by decide))) (by intro _; rfl))) pa_nil (by rfl)) (by decide) (by decide) (by rfl) (by rfl))) (@pg_name _ _ 7 _ scLr.nd rfl (Or.inl rfl) (by first | exact .inl rfl | exact .inr rfl | assumption)) (@pss_cons _ _ _ _ _ (@ps_asg _ _ _ _ _ _ (@pe_dpop1 _ _ _ _ _ _ _ (@pv _ 4 _ _ (by rfl) (by first | exact Or.inl rfl | exact Or.inr (Or.inl rfl) | exact Or.inr (Or.inr rfl)) (by decide) (by decide)) (@pv _ 7 _ _ (by rfl) (by first | exact Or.inl rfl | exact Or.inr (Or.inl rfl) | exact Or.inr (Or.inr rfl)) (by decide) (by decide)) ⟨rfl, rfl, rfl, rfl⟩) (@pg_tup _ _ _ _ _ _ rfl (@pgs_cons _ _ _ _ _ (@pg_name _ _ 8 _ scLr.nd rfl (Or.inl rfl) (by first | exact .inl rfl | exact .inr rfl | assumption)) (@pgs_cons _ _ _ _ _ (@pg_name _ _ 9 _ scLr.nd rfl (Or.inr rfl) (by first | exact .inl rfl | exact .inr rfl | assumption)) (@pgs_cons _ _ _ _ _ (@pg_name _ _ 10 _ scLr.nd rfl (Or.inl rfl) (by first | exact .inl rfl | exact .inr rfl | assumption)) pgs_nil (by rfl)) (by rfl)) (by rfl)) (by rfl) (by rfl)) (by rfl) (by rfl) (by rfl)) (@pss_cons _ _ _ _ _ (@ps_setLC _ 11 _ _ _ _ (some _) _ _ _ _ _ _ _ _ ["_law_k", "_law_lane", "_law_net_here"] [none, some 9, some 0] scLr.nd rfl rfl rfl (@pi_range2 _ _ _ _ _ _ _ rfl G.range (@pa_cons _ _ _ _ _ (@pv _ 10 _ _ (by rfl) (by first | exact Or.inl rfl | exact Or.inr (Or.inl rfl) | exact Or.inr (Or.inr rfl)) (by decide) (by decide)) (@pa_cons _ _ _ _ _ (@pe_callB _ _ _ _ _ _ _ _ _ call_len_seq (by rfl) G.len PySem.boot_len (@pa_cons _ _ _ _ _ (@pe_ix _ _ _ _ _ _ _ ix_tup (@pv _ 0 _ _ (by rfl) (by first | exact Or.inl rfl | exact Or.inr (Or.inl rfl) | exact Or.inr (Or.inr rfl)) (by decide) (by decide)) pe_int (fun _ _ => rfl)) pa_nil (by rfl)) (by decide) (by decide) (by rfl) (by rfl)) pa_nil (by rfl)) (by rfl)) (by rfl) (by rfl)) (CapOk.of (by kernel_rfl)) (fun _ _ _ _ _ => (@pg_name _ _ 0 _ (show (["_law_k", "_law_lane", "_law_net_here"] : List Str).Nodup from by decide +kernel) rfl (Or.inl rfl) (Or.inr rfl))) (fun _ _ _ _ _ => (@pt_some _ _ _ (@pt_cmpR _ _ _ _ _ _ _ (rIn K false) op_in_seq (@pv _ 1 _ _ (by rfl) (by first | exact Or.inl rfl | exact Or.inr (Or.inl rfl) | exact Or.inr (Or.inr rfl)) (by decide) (by decide)) (@pe_ix _ _ _ _ _ _ (rIxT K) ix_tup (@pe_ix _ _ _ _ _ _ (rIxT K) ix_tup (@pv _ 2 _ _ (by rfl) (by first | exact Or.inl rfl | exact Or.inr (Or.inl rfl) | exact Or.inr (Or.inr rfl)) (by decide) (by decide)) pe_int (fun _ _ => rfl)) (@pv _ 0 _ _ (by rfl) (by first | exact Or.inl rfl | exact Or.inr (Or.inl rfl) | exact Or.inr (Or.inr rfl)) (by decide) (by decide)) (fun _ _ => rfl)) (by rfl)))) (fun _ _ _ _ _ => (@pv _ 0 _ _ (by rfl) (by first | exact Or.inl rfl | exact Or.inr (Or.inl rfl) | exact Or.inr (Or.inr rfl)) (by decide) (by decide))) (by intro _; rfl) (by with_unfolding_all rfl)) (@pss_one _ _ _ (@ps_if _ _ _ _ _ _ _ _ (@pt_cmpR _ _ _ _ _ _ _ _ (op_eqLi hr.units0) (@pv _ 11 _ _ (by rfl) (by first | exact Or.inl rfl | exact Or.inr (Or.inl rfl) | exact Or.inr (Or.inr rfl)) (by decide) (by decide)) (@pe_lst _ _ _ _ pa_nil) (nomark _)) (@pss_cons _ _ _ _ _ (@ps_set _ _ 12 _ _ _ _ scLr.nd rfl (Or.inl rfl) (@pe_tidx _ _ _ _ _ _ _ hr.units (@pe_ix _ _ _ _ _ _ _ ix_tup (@pv _ 0 _ _ (by rfl) (by first | exact Or.inl rfl | exact Or.inr (Or.inl rfl) | exact Or.inr (Or.inr rfl)) (by decide) (by decide)) pe_int (fun _ _ => rfl)) (@pa_cons _ _ _ _ _ (@pv _ 9 _ _ (by rfl) (by first | exact Or.inl rfl | exact Or.inr (Or.inl rfl) | exact Or.inr (Or.inr rfl)) (by decide) (by decide)) pa_nil (by rfl)) (by rfl) (by rfl) (by rfl) (by rfl)) (by rfl) (by first | exact .inl rfl | exact .inr rfl | assumption)) (@pss_cons _ _ _ _ _ (@ps_dput _ _ _ _ _ _ _ _ _ hr.u1 (@pv _ 5 _ _ (by rfl) (by first | exact Or.inl rfl | exact Or.inr (Or.inl rfl) | exact Or.inr (Or.inr rfl)) (by decide) (by decide)) (@pv _ 7 _ _ (by rfl) (by first | exact Or.inl rfl | exact Or.inr (Or.inl rfl) | exact Or.inr (Or.inr rfl)) (by decide) (by decide)) (@pe_tup _ _ _ _ _ (@pa_cons _ _ _ _ _ (@pe_op _ _ _ _ _ _ _ _ op_add (@pv _ 12 _ _ (by rfl) (by first | exact Or.inl rfl | exact Or.inr (Or.inl rfl) | exact Or.inr (Or.inr rfl)) (by decide) (by decide)) (@pe_op _ _ _ _ _ _ _ _ op_mul (@pe_ix _ _ _ _ _ _ _ ix_tup (@pv _ 0 _ _ (by rfl) (by first | exact Or.inl rfl | exact Or.inr (Or.inl rfl) | exact Or.inr (Or.inr rfl)) (by decide) (by decide)) pe_int (fun _ _ => rfl)) (@pe_ix _ _ _ _ _ _ _ ix_list (@pv _ 3 _ _ (by rfl) (by first | exact Or.inl rfl | exact Or.inr (Or.inl rfl) | exact Or.inr (Or.inr rfl)) (by decide) (by decide)) (@pv _ 12 _ _ (by rfl) (by first | exact Or.inl rfl | exact Or.inr (Or.inl rfl) | exact Or.inr (Or.inr rfl)) (by decide) (by decide)) (fun _ _ => rfl)))) (@pa_cons _ _ _ _ _ (@pv _ 12 _ _ (by rfl) (by first | exact Or.inl rfl | exact Or.inr (Or.inl rfl) | exact Or.inr (Or.inr rfl)) (by decide) (by decide)) (@pa_cons _ _ _ _ _ (@pv _ 6 _ _ (by rfl) (by first | exact Or.inl rfl | exact Or.inr (Or.inl rfl) | exact Or.inr (Or.inr rfl)) (by decide) (by decide)) pa_nil (by rfl)) (by rfl)) (by rfl))) (by rfl)) (@pss_one _ _ _ (@ps_augS _ _ _ _ _ _ _ _ _ _ _ _ _ (@pv _ 3 _ _ (by rfl) (by first | exact Or.inl rfl | exact Or.inr (Or.inl rfl) | exact Or.inr (Or.inr rfl)) (by decide) (by decide)) (@pv _ 12 _ _ (by rfl) (by first | exact Or.inl rfl | exact Or.inr (Or.inl rfl) | exact Or.inr (Or.inr rfl)) (by decide) (by decide)) get_list pe_int ip_add set_list (by intros; rfl))))) (@pss_cons _ _ _ _ _ (@ps_set _ _ 13 _ _ _ _ scLr.nd rfl (Or.inl rfl) (@pe_ix _ _ _ _ _ _ _ ix_list (@pv _ 11 _ _ (by rfl) (by first | exact Or.inl rfl | exact Or.inr (Or.inl rfl) | exact Or.inr (Or.inr rfl)) (by decide) (by decide)) pe_int (fun _ _ => rfl)) (by rfl) (by first | exact .inl rfl | exact .inr rfl | assumption)) (@pss_cons _ _ _ _ _ (@ps_dput _ _ _ _ _ _ _ _ _ hr.u1 (@pv _ 4 _ _ (by rfl) (by first | exact Or.inl rfl | exact Or.inr (Or.inl rfl) | exact Or.inr (Or.inr rfl)) (by decide) (by decide)) (@pv _ 7 _ _ (by rfl) (by first | exact Or.inl rfl | exact Or.inr (Or.inl rfl) | exact Or.inr (Or.inr rfl)) (by decide) (by decide)) (@pe_tup _ _ _ _ _ (@pa_cons _ _ _ _ _ (@pe_op _ _ _ _ _ _ _ _ op_add (@pv _ 6 _ _ (by rfl) (by first | exact Or.inl rfl | exact Or.inr (Or.inl rfl) | exact Or.inr (Or.inr rfl)) (by decide) (by decide)) (@pe_ix _ _ _ _ _ _ _ ix_tup (@pe_ix _ _ _ _ _ _ _ ix_tup (@pv _ 1 _ _ (by rfl) (by first | exact Or.inl rfl | exact Or.inr (Or.inl rfl) | exact Or.inr (Or.inr rfl)) (by decide) (by decide)) (@pv _ 7 _ _ (by rfl) (by first | exact Or.inl rfl | exact Or.inr (Or.inl rfl) | exact Or.inr (Or.inr rfl)) (by decide) (by decide)) (fun _ _ => rfl)) pe_int (fun _ _ => rfl))) (@pa_cons _ _ _ _ _ (@pe_ix _ _ _ _ _ _ _ ix_tup (@pe_ix _ _ _ _ _ _ _ ix_tup (@pe_ix _ _ _ _ _ _ _ ix_tup (@pv _ 0 _ _ (by rfl) (by first | exact Or.inl rfl | exact Or.inr (Or.inl rfl) | exact Or.inr (Or.inr rfl)) (by decide) (by decide)) pe_int (fun _ _ => rfl)) (@pv _ 13 _ _ (by rfl) (by first | exact Or.inl rfl | exact Or.inr (Or.inl rfl) | exact Or.inr (Or.inr rfl)) (by decide) (by decide)) (fun _ _ => rfl)) (@pe_ix _ _ _ _ _ _ _ ix_list (@pv _ 2 _ _ (by rfl) (by first | exact Or.inl rfl | exact Or.inr (Or.inl rfl) | exact Or.inr (Or.inr rfl)) (by decide) (by decide)) (@pv _ 13 _ _ (by rfl) (by first | exact Or.inl rfl | exact Or.inr (Or.inl rfl) | exact Or.inr (Or.inr rfl)) (by decide) (by decide)) (fun _ _ => rfl)) (fun _ _ => rfl)) (@pa_cons _ _ _ _ _ (@pe_op _ _ _ _ _ _ _ _ op_add (@pv _ 13 _ _ (by rfl) (by first | exact Or.inl rfl | exact Or.inr (Or.inl rfl) | exact Or.inr (Or.inr rfl)) (by decide) (by decide)) pe_int) pa_nil (by rfl)) (by rfl)) (by rfl))) (by rfl)) (@pss_one _ _ _ (@ps_asg _ _ _ _ _ _ (@pe_op _ _ _ _ _ _ _ _ op_sub pe_int (@pe_ix _ _ _ _ _ _ _ ix_list (@pv _ 2 _ _ (by rfl) (by first | exact Or.inl rfl | exact Or.inr (Or.inl rfl) | exact Or.inr (Or.inr rfl)) (by decide) (by decide)) (@pv _ 13 _ _ (by rfl) (by first | exact Or.inl rfl | exact Or.inr (Or.inl rfl) | exact Or.inr (Or.inr rfl)) (by decide) (by decide)) (fun _ _ => rfl))) (@pg_sub _ _ _ _ _ _ _ (@pv _ 2 _ _ (by rfl) (by first | exact Or.inl rfl | exact Or.inr (Or.inl rfl) | exact Or.inr (Or.inr rfl)) (by decide) (by decide)) (@pv _ 13 _ _ (by rfl) (by first | exact Or.inl rfl | exact Or.inr (Or.inl rfl) | exact Or.inr (Or.inr rfl)) (by decide) (by decide)) set_list (by intro _; rfl)) (by rfl) (by rfl) (by rfl))))))))) (by intro _; rfl))))) (@pss_one _ _ _ (@ps_ret _ _ _ _ (@pe_callTy _ _ _ _ _ _ _ _ _ call_tuple_of (by rfl) G.tuple (by rfl) (@pa_cons _ _ _ _ _ (@pe_lc _ _ _ _ none _ _ _ _ _ _ ["_law_ball", "_law_found"] [none, some 5] rfl (@pi_range1 _ _ _ _ _ _ rfl G.range (@pa_cons _ _ _ _ _ (@pe_callB _ _ _ _ _ _ _ _ _ call_len_seq (by rfl) G.len PySem.boot_len (@pa_cons _ _ _ _ _ (@pv _ 1 _ _ (by rfl) (by first | exact Or.inl rfl | exact Or.inr (Or.inl rfl) | exact Or.inr (Or.inr rfl)) (by decide) (by decide)) pa_nil (by rfl)) (by decide) (by decide) (by rfl) (by rfl)) pa_nil (by rfl)) (by rfl)) (CapOk.of (by kernel_rfl)) (fun _ _ _ _ _ => (@pg_name _ _ 0 _ (show (["_law_ball", "_law_found"] : List Str).Nodup from by decide +kernel) rfl (Or.inl rfl) (Or.inr rfl))) (fun _ _ _ _ _ => pt_none) (fun _ _ _ _ _ => (@pe_dget _ _ _ _ _ _ hr.u1 (@pv _ 1 _ _ (by rfl) (by first | exact Or.inl rfl | exact Or.inr (Or.inl rfl) | exact Or.inr (Or.inr rfl)) (by decide) (by decide)) (@pv _ 0 _ _ (by rfl) (by first | exact Or.inl rfl | exact Or.inr (Or.inl rfl) | exact Or.inr (Or.inr rfl)) (by decide) (by decide)) (fun _ _ => rfl))) (by intro _; rfl)) pa_nil (by rfl)) (by decide) (by decide) (by rfl) (by rfl)))))))), ?_⟩
  have l1 := ok.l1
  have l16 := ok.l16
  have fm := ok.fm
  have ql := ra.1
  have pl := na.prs.len
  have pi0 := pin0 ok fun x hx => (rok x hx).1
  refine ⟨(by show 1 ≤ sizeLine; decide), fun p1 hp1 => ?_⟩
  have s1 := same_new hp1 (.lst [.int 0])
  refine ⟨_, rfl, r, _, 1, _, rfl, rfl, SqT.of (s1 _ _ na.net), rfl, fr, _, rfl, .inr (SqT.of (s1 _ _ na.forks)), p1, ps.length, _, rfl, rfl, upd_same, by lia, by lia, by show 1 * _ ≤ sizeLine; rw [sizeLine_eq]; lia, fun ltn hltn => ?_⟩
  rw [Int.toNat_natCast, reps, pl]
  have s2 := same_new hltn (.lst (nums (List.replicate N.forks.length 0)))
  have ht2 := atNew hltn (.lst (nums (List.replicate N.forks.length 0)))
  have u2 := s1.trans s2
  generalize L2.upd _ ltn _ = H2 at s2 ht2 u2 ⊢
  refine ⟨(by show 1 ≤ sizeLine; decide), fun p3 hp3 => ?_⟩
  have s3 := same_new hp3 (.lst [.int 0])
  have u3 := u2.trans s3
  refine ⟨_, rfl, r, _, 0, _, rfl, rfl, SqT.of (u3 _ _ na.net), rfl, p3, N.lanes, _, rfl, rfl, upd_same, by lia, by lia, by show 1 * _ ≤ sizeLine; rw [sizeLine_eq]; lia, fun lcm hlcm => ?_⟩
  rw [Int.toNat_natCast, reps]
  have s4 := same_new hlcm (.lst (nums (List.replicate N.lanes 0)))
  have hc4 := atNew hlcm (.lst (nums (List.replicate N.lanes 0)))
  have n1 : ltn ≠ lcm := ne_of_none (s3 _ _ ht2) hlcm
  have ht4 := s4 _ _ (s3 _ _ ht2)
  have u4 := u3.trans s4
  have fl : ∀ {b : Addr} {o : HO}, H b = some o → b ≠ ltn ∧ b ≠ lcm := fun e => ⟨ne_of_none (s1 _ _ e) hltn, ne_of_none (u3 _ _ e) hlcm⟩
  generalize L2.upd _ lcm _ = H4 at s4 hc4 ht4 u4 ⊢
  refine ⟨_, _, rfl, ?_⟩
  refine ⟨_, rfl, pr, qs, rfl, SqT.of (u4 _ _ hpr), fun l0 hl0 => ?_⟩
  refine lc_enumT (K := K) (b := false) (a := pr) (xs := qs) (fun i acc σ H5 => (∃ w0 w1, σ = [w0, w1]) ∧ Same H4 H5 ∧ H5 l0 = some (.lst acc) ∧ ∃ kvs, PrK H5 acc kvs ∧ kvs.length = i ∧ ∀ (j : Nat) p, kvs[j]? = some p → ∃ q, p = (.inl (j : Int), .ref q) ∧ H5 q = some (.tup [.int (rs.getD j default).start, .int ((rs.getD j default).lane : Nat), .int 0])) ⟨⟨_, _, rfl⟩, same_new hl0 _, upd_same, [], ⟨rfl, fun i t e => by simp at e⟩, rfl, fun j p e => by simp at e⟩ (fun i acc σ H5 z => ⟨z.2.2.1, SqT.of (z.2.1 _ _ (u4 _ _ hpr))⟩) ?_ ?_
  · rintro i acc σ H5 x T hx hT ⟨⟨w0, w1, rfl⟩, s5, h5, kvs, pk, kl, ke⟩
    have il : i < qs.length := (List.getElem?_eq_some_iff.mp hx).1
    obtain ⟨q0, e1, e2⟩ := (ra.tups (Tups.of (u4.trans s5))).at_ (by lia : i < rs.length)
    rw [e1] at hx
    obtain rfl := Option.some.inj hx
    have s6 := same_new hT (.tup [.int (i : Nat), .ref q0])
    have q6 := s6 _ _ e2
    refine ⟨T, _, rfl, SqT.of upd_same, rfl, _, _, rfl, _, _, rfl, rfl, ?_⟩
    dsimp only [tYes]
    rw [if_pos rfl]
    refine ⟨_, rfl, _, rfl, q0, _, 1, _, rfl, rfl, SqT.of q6, rfl, _, rfl, q0, _, 0, _, rfl, rfl, SqT.of q6, rfl, by show 3 ≤ sizeLine; decide, fun t1 ht1 => ?_⟩
    have s7 := same_new ht1 (.tup [.int (rs.getD i default).start, .int ((rs.getD i default).lane : Nat), .int 0])
    refine ⟨by show 2 ≤ sizeLine; decide, fun t2 ht2 => ?_⟩
    have s8 := same_new ht2 (.tup [.int (i : Nat), .ref t1])
    have u8 := (s6.trans s7).trans s8
    have h8 := u8 _ _ h5
    have al : acc.length = i := by rw [pk.1, kl]
    have tl := Tups.lst (ys := acc ++ [.ref t2]) h8
    have tu := (Tups.of u8).trans tl
    refine ⟨h8, by rw [al, sizeLine_eq]; lia, nx il ⟨⟨_, _, rfl⟩, fun b o e => ?_, upd_same, kvs ++ [(.inl (i : Int), .ref t1)], ⟨by rw [List.length_append, List.length_append, pk.1]; rfl, fun j y e => ?_⟩, by rw [List.length_append, kl]; rfl, fun j p e => ?_⟩⟩
    · rw [upd_ne (ne_of_none e hl0)]; exact (s5.trans u8) b o e
    · by_cases c : j < acc.length
      · rw [List.getElem?_append_left c] at e
        obtain ⟨a', kk, vv, e3, e4, e5⟩ := pk.2 j y e
        exact ⟨a', kk, vv, e3, by rw [List.getElem?_append_left (by lia)]; exact e4, tu _ _ e5⟩
      · rw [List.getElem?_append_right (by lia)] at e
        have i0 : j - acc.length = 0 := by
          have := (List.getElem?_eq_some_iff.mp e).1
          simp at this; lia
        rw [i0] at e
        obtain rfl := Option.some.inj e
        exact ⟨t2, .inl (i : Int), .ref t1, rfl, by rw [List.getElem?_append_right (by lia), show j - kvs.length = 0 by lia]; rfl, tl _ _ (atNew ht2 _)⟩
    · by_cases c : j < kvs.length
      · rw [List.getElem?_append_left c] at e
        obtain ⟨q, e3, e4⟩ := ke j p e
        exact ⟨q, e3, tu _ _ e4⟩
      · rw [List.getElem?_append_right (by lia)] at e
        have i0 : j - kvs.length = 0 := by
          have := (List.getElem?_eq_some_iff.mp e).1
          simp at this; lia
        rw [i0] at e
        obtain rfl := Option.some.inj e
        have ej : j = i := by lia
        subst ej
        exact ⟨t1, rfl, tl _ _ (s8 _ _ (atNew ht1 _))⟩
  rintro acc σ H5 ⟨⟨w0, w1, rfl⟩, s5, h5, kvs0, pk, kl, ke⟩
  refine ⟨l0, acc, kvs0, rfl, h5, pk, fun dd hdd => ?_⟩
  have dk5 := due0 (N := N) (kl.trans ql) ke
  rw [merge_new kvs0 [] (by rw [List.nil_append]; exact dk5.nd), List.nil_append]
  have s6 := same_new hdd (.dK kvs0)
  have u6 := (u4.trans s5).trans s6
  have hd6 := atNew hdd (.dK kvs0)
  have ht6 := s6 _ _ (s5 _ _ ht4)
  have hc6 := s6 _ _ (s5 _ _ hc4)
  have dk6 := dk5.tups (Tups.of s6)
  have fdd : ∀ {b : Addr} {o : HO}, H b = some o → b ≠ dd := fun e => ne_of_none ((u4.trans s5) _ _ e) hdd
  generalize L2.upd H5 dd (.dK kvs0) = H6 at s6 u6 hd6 ht6 hc6 dk6 ⊢
  intro df hdf
  have s7 := same_new hdf (.dK [])
  have u7 := u6.trans s7
  have n2 : dd ≠ df := ne_of_none hd6 hdf
  have fdf : ∀ {b : Addr} {o : HO}, H b = some o → b ≠ df := fun e => ne_of_none (u6 _ _ e) hdf
  have lr7 : LrAt (L2.upd H6 df (.dK [])) N ltn lcm dd df (a0 N rs) := ⟨s7 _ _ ht6, s7 _ _ hc6, ⟨kvs0, s7 _ _ hd6, dk6.tups (Tups.of s7)⟩, ⟨[], upd_same, (fun b n e m z => nomatch z), Nat.zero_le _⟩, n1, n2⟩
  generalize L2.upd H6 df (.dK []) = H7 at s7 u7 lr7 ⊢
  refine ⟨fun m σ H8 => (∃ w6 w7 w8 w9 w10 w11 w12 w13, σ = [some (.ref r), some (.ref pr), some (.ref ltn), some (.ref lcm), some (.ref dd), some (.ref df), w6, w7, w8, w9, w10, w11, w12, w13]) ∧ ∃ a, m = pot N.forks.length a.S.spots ∧ Chain N (paceF rs) (a0 N rs) a ∧ PIn N rs.length a ∧ LrAt H8 N ltn lcm dd df a ∧ Same H H8,
    ⟨_, ⟨_, _, _, _, _, _, _, _, rfl⟩, a0 N rs, rfl, .nil _, pi0, lr7, u7⟩, ?_⟩
  rintro m σ H8 ⟨⟨w6, w7, w8, w9, w10, w11, w12, w13, rfl⟩, a, rfl, ch, pi, lr8, u8⟩
  refine ⟨_, rfl, fun e he => ?_⟩
  have s9 := same_new he (.dK [])
  have lr9 := lr8.same s9
  have u9 := u8.trans s9
  have e9 := atNew he (.dK [])
  generalize L2.upd H8 e (.dK []) = H9 at s9 lr9 u9 e9 ⊢
  obtain ⟨kvs, hd9, dk9⟩ := lr9.hd
  refine ⟨dd, e, kvs, rfl, rfl, hd9, e9, _, rfl, ?_⟩
  have pln := pi.ln
  cases kn : kvs with
  | nil =>
    rw [kn] at dk9
    have we := dk9.empty
    refine iteF ?_
    obtain ⟨kf, hf9, fn9, _⟩ := lr9.hf
    refine ⟨_, rfl, pr, _, rfl, .inr (SqT.of (u9 _ _ hpr)), _, rfl, by lia, by lia, fun lq hlq => ?_⟩
    have tln : ∀ i, i < rs.length → a.told i ≠ none := fun i il => by
      refine (pi.tl i il).mp ?_
      have ni : i ∉ wayL a.S.spots := by rw [we]; exact List.not_mem_nil
      cases e : a.S.spots[i]? with
      | none => rw [List.getElem?_eq_none_iff] at e; lia
      | some o =>
        cases o with
        | none => rfl
        | some y => exact absurd (way_mem.mpr ⟨y, e⟩) ni
    refine lc_range (lo := 0) (n := ((qs.length : Nat) : Int).toNat) (fun j acc σ H10 => (∃ x0, σ = [x0, some (.ref df)]) ∧ Same H9 H10 ∧ H10 lq = some (.lst acc) ∧ acc.length = j ∧ ∀ (i : Nat) v, acc[i]? = some v → TldV H10 v (a.told i)) ⟨⟨_, rfl⟩, same_new hlq _, upd_same, rfl, fun i v e => by simp at e⟩ (fun j acc σ H10 z => z.2.2.1) ?_ ?_
    · rintro j acc σ H10 hj ⟨⟨x0, rfl⟩, s10, h10, al, tv⟩
      have jl : j < rs.length := by lia
      rw [Int.zero_add]
      cases et : a.told j with
      | none => exact absurd et (tln j jl)
      | some y =>
        obtain ⟨n, e', m⟩ := y
        obtain ⟨q, hv, hq⟩ := fn9 j n e' m et
        refine ⟨_, rfl, _, rfl, df, .ref q, rfl, hv ▸ DGet.k (k := .inl (j : Int)) (s10 _ _ hf9), ?_⟩
        have tl := Tups.lst (ys := acc ++ [.ref q]) h10
        refine ⟨h10, by rw [al, sizeLine_eq]; lia, nx hj ⟨⟨_, rfl⟩, fun b o e => ?_, upd_same, by rw [List.length_append, al]; rfl, fun i v e => ?_⟩⟩
        · rw [upd_ne (ne_of_none e hlq)]; exact s10 b o e
        · by_cases c : i < acc.length
          · rw [List.getElem?_append_left c] at e
            exact (tv i v e).tups tl
          · rw [List.getElem?_append_right (by lia)] at e
            have i0 : i - acc.length = 0 := by
              have := (List.getElem?_eq_some_iff.mp e).1
              simp at this; lia
            rw [i0] at e
            obtain rfl := Option.some.inj e
            have ej : i = j := by lia
            subst ej
            rw [et]
            exact ⟨q, rfl, tl _ _ (s10 _ _ hq)⟩
    rintro acc σ H10 ⟨⟨x0, rfl⟩, s10, h10, al, tv⟩
    refine ⟨lq, _, rfl, .inl ⟨SqL.of h10, fun p hp => ?_⟩⟩
    have s11 := same_new hp (.tup acc)
    exact k p a _ ((u9.trans s10).trans s11) ch we pi ⟨acc, upd_same, ⟨by rw [al]; lia, fun i v e => (tv i v e).tups (Tups.of s11)⟩, tln⟩
  | cons p0 kr =>
    have kpos : 0 < kvs.length := by rw [kn]; exact Nat.succ_pos _
    refine iteT ?_
    clear kn
    refine ⟨_, fun σ' H' h => h, ?_⟩
    refine ⟨_, rfl, dd, kvs, rfl, hd9, fun o l hl => ?_⟩
    refine lc_dv (d := dd) (o := o) (kvs := kvs) (fun i acc σ H10 => (∃ x0 x1 x2, σ = [x0, x1, x2]) ∧ Same (L2.upd H9 dd (.frz o (.dK kvs))) H10 ∧ H10 l = some (.lst acc) ∧ ∃ ns : List Int, acc = ns.map V.int ∧ ns.length = i ∧ (∀ n ∈ ns, ∃ b ∈ wayL a.S.spots, n = a.t b) ∧ ∀ (j : Nat) (b : Nat) v, j < i → kvs[j]? = some (.inl (b : Int), v) → a.t b ∈ ns) ⟨⟨_, _, _, rfl⟩, same_new hl _, upd_same, [], rfl, rfl, fun n hn => (List.not_mem_nil hn).elim, fun j b v jl => by lia⟩ (fun i acc σ H10 z => ⟨z.2.2.1, z.2.1 _ _ upd_same⟩) ?_ ?_
    · rintro i acc σ H10 p hp ⟨⟨x0, x1, x2, rfl⟩, s10, h10, ns, rfl, nl, nb, na'⟩
      have il : i < kvs.length := (List.getElem?_eq_some_iff.mp hp).1
      obtain ⟨b, q, lane, k', ahead, rfl, h2, h3, h4⟩ := dk9.mem p (List.mem_of_getElem? hp)
      have q10 := s10 _ _ (show L2.upd H9 dd (.frz o (.dK kvs)) q = _ by rw [upd_ne (ne_of h3 hd9 (fun z => by cases z))]; exact h3)
      refine ⟨q, _, rfl, SqT.of q10, rfl, _, _, rfl, _, _, rfl, _, _, rfl, rfl, _, rfl, ?_⟩
      have lk := dk9.len
      refine ⟨h10, by rw [List.length_map, nl, sizeLine_eq]; lia, nx il ⟨⟨_, _, _, rfl⟩, fun x u e => ?_, upd_same, ns ++ [a.t b], by rw [List.map_append]; rfl, by rw [List.length_append, nl]; rfl, fun n hn => ?_, fun j c v jl hj => ?_⟩⟩
      · rw [upd_ne (ne_of_none e hl)]; exact s10 x u e
      · rcases List.mem_append.mp hn with z | z
        · exact nb n z
        · exact ⟨b, way_mem.mpr ⟨_, h2⟩, List.mem_singleton.mp z⟩
      · by_cases c' : j < i
        · exact List.mem_append.mpr (.inl (na' j c v c' hj))
        · have ej : j = i := by lia
          subst ej
          rw [hp] at hj
          have ec := Sum.inl.inj (congrArg Prod.fst (Option.some.inj hj))
          rw [show c = b by lia]
          exact List.mem_append.mpr (.inr (List.mem_singleton.mpr rfl))
    rintro acc σ H10 ⟨⟨x0, x1, x2, rfl⟩, s10, h10, ns, rfl, nl, nb, na'⟩
    have hd10 := s10 _ _ (upd_same (H := H9) (a := dd) (o := .frz o (.dK kvs)))
    refine ⟨dd, o, kvs, kvs, hd9, hd10, ?_⟩
    have s11 : Same H9 (L2.upd H10 dd (.dK kvs)) := fun x u e => by
      by_cases c : x = dd
      · subst c; rw [upd_same]; rw [hd9] at e; exact e
      · rw [upd_ne c]; exact s10 _ _ (by rw [upd_ne c]; exact e)
    have nld : l ≠ dd := by
      rintro rfl
      rw [upd_same] at hl; cases hl
    have h11 : L2.upd H10 dd (.dK kvs) l = some (.lst (ns.map V.int)) := by rw [upd_ne nld]; exact h10
    generalize L2.upd H10 dd (.dK kvs) = H11 at s11 h11 ⊢
    clear s10 hd10 hl nld
    refine ⟨l, ns, rfl, SqL.of h11, by lia, fun now nm least => ?_⟩
    have low : ∀ b ∈ wayL a.S.spots, now ≤ a.t b := fun b hb => by
      obtain ⟨v, hv⟩ := dk9.all b hb
      obtain ⟨j, jl, ej⟩ := List.mem_iff_getElem.mp hv
      exact least _ (na' j b v jl (by rw [List.getElem?_eq_getElem jl, ej]))
    obtain ⟨b0, b0m, b0e⟩ := nb now nm
    have lr11 := lr9.same s11
    have hd11 := s11 _ _ hd9
    have dk11 := dk9.tups (Tups.of s11)
    have u11 := u9.trans s11
    clear nb na' nm least h11
    refine ⟨_, rfl, dd, kvs, rfl, hd11, fun o2 l2 hl2 => ?_⟩
    refine lc_dk (d := dd) (o := o2) (kvs := kvs) (fun i acc σ H12 => (∃ x0, σ = [x0, some (.int now), some (.ref dd)]) ∧ Same (L2.upd H11 dd (.frz o2 (.dK kvs))) H12 ∧ H12 l2 = some (.lst acc) ∧ acc = (sel now a (kvs.take i)).map V.int) ⟨⟨_, rfl⟩, same_new hl2 _, upd_same, rfl⟩ (fun i acc σ H12 z => ⟨z.2.2.1, z.2.1 _ _ upd_same⟩) ?_ ?_
    · rintro i acc σ H12 p hp ⟨⟨x0, rfl⟩, s12, h12, rfl⟩
      have il : i < kvs.length := (List.getElem?_eq_some_iff.mp hp).1
      obtain ⟨b, q, lane, k', ahead, rfl, h2, h3, h4⟩ := dk11.mem p (List.mem_of_getElem? hp)
      have q12 := s12 _ _ (show L2.upd H11 dd (.frz o2 (.dK kvs)) q = _ by rw [upd_ne (ne_of h3 hd11 (fun z => by cases z))]; exact h3)
      have hv := val_of_mem dk11.nd (List.mem_of_getElem? hp)
      have z12 := s12 _ _ (upd_same (H := H11) (a := dd) (o := .frz o2 (.dK kvs)))
      have ss := sel_snoc now a kvs hp
      have lk := dk9.len
      have sl := sel_len now a (kvs.take i)
      rw [List.length_take] at sl
      refine ⟨_, rfl, _, rfl, dd, .ref q, rfl, .inl ⟨kvs, .inl (b : Int), .inr ⟨o2, z12⟩, rfl, hv.symm⟩, q, _, 0, _, rfl, rfl, SqT.of q12, rfl, _, rfl, rfl, _, rfl, ?_⟩
      by_cases c : a.t b = now
      · rw [decide_eq_true (show V.int (a.t b) = V.int now by rw [c])]
        rw [show decide (a.t (keyN (Sum.inl (b : Int) : Key)).toNat = now) = true from decide_eq_true c, if_pos rfl] at ss
        refine iteT ⟨_, rfl, h12, by rw [List.length_map, sizeLine_eq]; lia, nx il ⟨⟨_, rfl⟩, fun x u e => ?_, upd_same, ?_⟩⟩
        · rw [upd_ne (ne_of_none e hl2)]; exact s12 x u e
        · rw [ss, List.map_append]; rfl
      · rw [decide_eq_false (show ¬ V.int (a.t b) = V.int now from fun z => c (by injection z))]
        rw [show decide (a.t (keyN (Sum.inl (b : Int) : Key)).toNat = now) = false from decide_eq_false c, if_neg Bool.false_ne_true, List.append_nil] at ss
        exact iteF (nx il ⟨⟨_, rfl⟩, s12, h12, by rw [ss]⟩)
    rintro acc σ H12 ⟨⟨x0, rfl⟩, s12, h12, rfl⟩
    rw [List.take_length] at h12
    have hd12 := s12 _ _ (upd_same (H := H11) (a := dd) (o := .frz o2 (.dK kvs)))
    refine ⟨dd, o2, kvs, kvs, hd11, hd12, ?_⟩
    have s13 : Same H11 (L2.upd H12 dd (.dK kvs)) := fun x u e => by
      by_cases c : x = dd
      · subst c; rw [upd_same]; rw [hd11] at e; exact e
      · rw [upd_ne c]; exact s12 _ _ (by rw [upd_ne c]; exact e)
    have nld : l2 ≠ dd := by
      rintro rfl
      rw [upd_same] at hl2; cases hl2
    have h13 : L2.upd H12 dd (.dK kvs) l2 = some (.lst ((sel now a kvs).map V.int)) := by rw [upd_ne nld]; exact h12
    generalize L2.upd H12 dd (.dK kvs) = H13 at s13 h13 ⊢
    clear s12 hd12 hl2 nld h12
    have lk := dk9.len
    have sl := sel_len now a kvs
    refine ⟨l2, sel now a kvs, rfl, SqL.of h13, by lia, fun lb ms hlb pm so => ?_⟩
    obtain ⟨bs, rfl, bt⟩ := batch_of dk9 low pm so
    have s14 := same_new hlb (.lst ((bs.map fun (b : Nat) => (b : Int)).map V.int))
    have lr14 := (lr11.same s13).same s14
    have u14 := (u11.trans s13).trans s14
    have h14 := atNew hlb (.lst ((bs.map fun (b : Nat) => (b : Int)).map V.int))
    have nlb : ∀ {b : Addr} {o : HO}, H13 b = some o → lb ≠ b := fun e z => by rw [z, e] at hlb; cases hlb
    have lr13 := lr11.same s13
    have lb1 := nlb lr13.ht
    have lb2 := nlb lr13.hc
    have lb3 : lb ≠ dd := by obtain ⟨x, y, _⟩ := lr13.hd; exact nlb y
    have lb4 : lb ≠ df := by obtain ⟨x, y, _⟩ := lr13.hf; exact nlb y
    generalize L2.upd H13 lb (.lst ((bs.map fun (b : Nat) => (b : Int)).map V.int)) = H14 at s14 lr14 u14 h14 ⊢
    refine ⟨lb, rfl, ⟨_, SqL.of h14⟩, ?_⟩
    have bsp : 0 < bs.length := List.length_pos_iff.mpr fun z => by
      have := (bt.all b0 b0m).2 b0e.symm
      rw [z] at this; exact List.not_mem_nil this
    refine for_list (K := K) (a := lb) (xs := (bs.map fun (b : Nat) => (b : Int)).map V.int) (fun j σ H15 => (∃ w7 w8 w9 w10 w11 w12 w13, σ = [some (.ref r), some (.ref pr), some (.ref ltn), some (.ref lcm), some (.ref dd), some (.ref df), some (.int now), w7, w8, w9, w10, w11, w12, w13]) ∧ H15 lb = some (.lst ((bs.map fun (b : Nat) => (b : Int)).map V.int)) ∧ ∃ a', pot N.forks.length a'.S.spots + j ≤ pot N.forks.length a.S.spots ∧ Chain N (paceF rs) (a0 N rs) a' ∧ PIn N rs.length a' ∧ LrAt H15 N ltn lcm dd df a' ∧ Same H H15 ∧ Batch now (bs.drop j) a') ⟨⟨_, _, _, _, _, _, _, rfl⟩, h14, a, Nat.le_refl _, ch, pi, lr14, u14, bt⟩ (fun j σ H15 _ z => SqL.of z.2.1) ?_ ?_
    · rintro j x σ H15 hx ⟨⟨w7, w8, w9, w10, w11, w12, w13, rfl⟩, h15, a', pt', ch', pi', lr15, u15, bt'⟩
      have jl : j < bs.length := by
        have := (List.getElem?_eq_some_iff.mp hx).1
        rwa [List.length_map, List.length_map] at this
      rw [List.getElem?_map, List.getElem?_map, List.getElem?_eq_getElem jl] at hx
      obtain rfl := Option.some.inj hx
      rw [List.drop_eq_getElem_cons jl] at bt'
      generalize bs[j] = b at bt'
      have le := bt'.least
      have tb := (bt'.mem b (.head _)).2
      have bt2 := bt'
      rw [← tb] at bt2
      obtain ⟨kv, hd15, dk15⟩ := lr15.hd
      obtain ⟨kf, hf15, fn15, kfl⟩ := lr15.hf
      obtain ⟨q, lane, k0, ahead, vb, hs, hq15, nk0⟩ := dk15.at_ le.1
      have sp := pi'.os.sp lane k0 (List.mem_of_getElem? hs)
      have bn : b < rs.length := by have := (List.getElem?_eq_some_iff.mp hs).1; have := pi'.ln; lia
      obtain ⟨few1, few2⟩ := pi'.few
      have up := nk0.upto
      have frm := nk0.from_
      have na15 := na.tups (Tups.of u15)
      refine ⟨_, rfl, dd, rfl, .inl ⟨_, .inl hd15⟩, _, rfl, kv, .inl (b : Int), _, hd15, rfl, vb, ?_⟩
      have nqd : q ≠ dd := ne_of hq15 hd15 (fun z => by cases z)
      have tp16 : Tups H15 (L2.upd H15 dd (.dK (dropK kv (.inl (b : Int))))) := fun x xs e => by rw [upd_ne (ne_of e hd15 (fun z => by cases z))]; exact e
      have ls16 : ∀ {x : Addr} {xs : List V}, H15 x = some (.lst xs) → L2.upd H15 dd (.dK (dropK kv (.inl (b : Int)))) x = some (.lst xs) := fun e => by rw [upd_ne (ne_of e hd15 (fun z => by cases z))]; exact e
      have ht16 := ls16 lr15.ht
      have hc16 := ls16 lr15.hc
      have hb16 := ls16 h15
      have hf16 : L2.upd H15 dd (.dK (dropK kv (.inl (b : Int)))) df = some (.dK kf) := by rw [upd_ne lr15.n2.symm]; exact hf15
      have hd16 : L2.upd H15 dd (.dK (dropK kv (.inl (b : Int)))) dd = some (.dK (dropK kv (.inl (b : Int)))) := upd_same
      have u16 : Same H (L2.upd H15 dd (.dK (dropK kv (.inl (b : Int))))) := fun x u e => by rw [upd_ne (fdd e)]; exact u15 x u e
      have q16 := tp16 _ _ hq15
      have dk16 := dk15.tups tp16
      have fn16 := fn15.tups tp16
      generalize L2.upd H15 dd (.dK (dropK kv (.inl (b : Int)))) = H16 at tp16 ht16 hc16 hb16 hf16 hd16 u16 q16 dk16 fn16 ⊢
      have na16 := na.tups (Tups.of u16)
      refine ⟨q, _, rfl, SqT.of q16, rfl, _, _, rfl, _, _, rfl, _, _, rfl, rfl, ?_⟩
      refine ⟨_, rfl, _, rfl, r, _, 1, _, rfl, rfl, SqT.of na16.net, rfl, fr, _, rfl, .inr (SqT.of na16.forks), _, _, rfl, ⟨by lia, by lia, by lia, by lia⟩, fun ll hll => ?_⟩
      refine lc_rangeT (lo := ((ahead : Nat) : Int)) (n := (((ps.length : Nat) : Int) - ((ahead : Nat) : Int)).toNat) (fun i acc σ H17 => (∃ x0, σ = [x0, some (.int (lane : Nat)), some (.ref r)]) ∧ Same H16 H17 ∧ H17 ll = some (.lst acc) ∧ acc = nums (lfL N.forks lane ((ahead : Int) - 1) (ahead + i))) ⟨⟨_, rfl⟩, same_new hll _, upd_same, by rw [Nat.add_zero, lf_low _ _ _ _ (Nat.le_refl _)]; rfl⟩ (fun i acc σ H17 z => z.2.2.1) ?_ ?_
      · rintro i acc σ H17 hi ⟨⟨x0, rfl⟩, s17, h17, rfl⟩
        have ii : ahead + i < ps.length := by lia
        have na17 := na16.tups (Tups.of s17)
        obtain ⟨g, fk, eg, ef, hg⟩ := na17.prs.get (i := ahead + i) (List.getElem?_eq_getElem ii)
        have hat : ps[ahead + i]? = some (.ref g) := by rw [List.getElem?_eq_getElem ii, eg]
        have ls := lf_succ N.forks lane ((ahead : Int) - 1) (ahead + i)
        have lln := lf_len N.forks lane ((ahead : Int) - 1) (ahead + i)
        rw [decide_eq_true (show ((ahead : Int) - 1 < ((ahead + i : Nat) : Int)) by lia), Bool.true_and, List.getD_eq_getElem?_getD, ef] at ls
        replace ls : lfL N.forks lane ((ahead : Int) - 1) (ahead + i + 1) = lfL N.forks lane ((ahead : Int) - 1) (ahead + i) ++ (if onB lane fk = true then [ahead + i] else []) := ls
        have ci : ((ahead : Nat) : Int) + ((i : Nat) : Int) = ((ahead + i : Nat) : Int) := by lia
        rw [ci]
        refine ⟨_, rfl, _, rfl, r, _, 1, _, rfl, rfl, SqT.of na17.net, rfl, _, rfl, fr, _, _, _, rfl, rfl, SqT.of na17.forks, atI_nat hat, g, _, rfl, .inr (SqT.of hg), rfl, rfl, _, rfl, ?_⟩
        have ei : inV (V.int (lane : Nat)) [V.int (fk.1 : Nat), V.int (fk.2 : Nat)] = onB lane fk := by
          unfold inV onB
          rw [List.any_cons, List.any_cons, List.any_nil, Bool.or_false]
          congr 1
          · exact decide_eq_decide.mpr ⟨fun q => by lia, fun q => by lia⟩
          · exact decide_eq_decide.mpr ⟨fun q => by lia, fun q => by lia⟩
        rw [if_neg Bool.false_ne_true, ei]
        cases on : onB lane fk with
        | true =>
          rw [on, if_pos rfl] at ls
          refine iteT ⟨_, rfl, h17, by rw [nums_len, sizeLine_eq]; lia, nx hi ⟨⟨_, rfl⟩, fun x u e => ?_, upd_same, ?_⟩⟩
          · rw [upd_ne (ne_of_none e hll)]; exact s17 x u e
          · rw [← Nat.add_assoc, ls]; unfold nums; rw [List.map_append]; rfl
        | false =>
          rw [on, if_neg Bool.false_ne_true, List.append_nil] at ls
          exact iteF (nx hi ⟨⟨_, rfl⟩, s17, h17, by rw [← Nat.add_assoc, ls]⟩)
      rintro acc σ H17 ⟨⟨x0, rfl⟩, s17, h17, rfl⟩
      rw [show ahead + (((ps.length : Nat) : Int) - ((ahead : Nat) : Int)).toNat = N.forks.length by lia] at h17
      obtain ⟨ln1, ln2⟩ := lf_ahead nk0
      have ht17 := s17 _ _ ht16
      have hc17 := s17 _ _ hc16
      have hb17 := s17 _ _ hb16
      have hf17 := s17 _ _ hf16
      have hd17 := s17 _ _ hd16
      have u17 := u16.trans s17
      have dk17 := dk16.tups (Tups.of s17)
      have fn17 := fn16.tups (Tups.of s17)
      refine ⟨_, rfl, by show 0 ≤ sizeLine; decide, fun le0 hle0 => ?_⟩
      have s18 := same_new hle0 (.lst [])
      have h18 := s18 _ _ h17
      have e18 := atNew hle0 (.lst [])
      have ht18 := s18 _ _ ht17
      have hc18 := s18 _ _ hc17
      have hb18 := s18 _ _ hb17
      have hf18 := s18 _ _ hf17
      have hd18 := s18 _ _ hd17
      have u18 := u17.trans s18
      have dk18 := dk17.tups (Tups.of s18)
      have fn18 := fn17.tups (Tups.of s18)
      generalize L2.upd H17 le0 (.lst []) = H18 at s18 h18 e18 ht18 hc18 hb18 hf18 hd18 u18 dk18 fn18 ⊢
      have na18 := na.tups (Tups.of u18)
      clear h17 ht17 hc17 hb17 hf17 hd17 u17 dk17 fn17 ht16 hc16 hb16 hf16 hd16 u16 dk16 fn16 s17 s18
      refine ⟨ll, le0, (lfL N.forks lane ((ahead : Int) - 1) N.forks.length).map (fun (i : Nat) => (i : Int)), [], rfl, rfl, SqL.of (by rw [h18, List.map_map]; rfl), SqL.of e18, _, rfl, ?_⟩
      by_cases kf0 : k0 = N.forks.length
      · dsimp only
        rw [ln1 kf0]
        refine iteT ?_
        have he := na18.ends
        rw [nums_map] at he
        have lm : lane ∈ N.ends := ok.en.mem_iff.mpr (List.mem_range.mpr sp.1)
        have ee : endN N lane < N.lanes := end_lt ok sp.1
        have il : endN N lane < a'.S.came.length := by rw [pi'.os.cl]; exact ee
        refine ⟨_, rfl, r, _, 2, _, rfl, rfl, SqT.of na18.net, rfl, er, _, rfl, he, _, rfl, (lane : Int), rfl, he, List.mem_map.mpr ⟨lane, lm, rfl⟩, ?_⟩
        rw [idx_cast]
        have at1 := nums_at' a'.S.came (endN N lane) il
        have cm := few2 (endN N lane) ee
        have ie : N.ends.idxOf lane = endN N lane := rfl
        rw [ie]
        refine ⟨_, rfl, _, rfl, r, _, 0, _, rfl, rfl, SqT.of na18.net, rfl, _, rfl, _, rfl, lcm, _, _, _, rfl, rfl, SqL.of hc18, atI_nat at1, _, _, rfl, rfl, .inl ⟨by lia, by lia⟩, _, _, rfl, rfl, _, rfl, _, rfl, by show 3 ≤ sizeLine; decide, fun q2 hq2 => ?_⟩
        have ev : ((endN N lane : Nat) : Int) + ((N.lanes : Nat) : Int) * ((a'.S.came.getD (endN N lane) 0 : Nat) : Int) = ((endN N lane + N.lanes * a'.S.came.getD (endN N lane) 0 : Nat) : Int) := by rw [Int.natCast_add, Int.natCast_mul]
        dsimp only
        rw [ev, ← tb]
        have s19 := same_new hq2 (.tup [.int (endN N lane + N.lanes * a'.S.came.getD (endN N lane) 0 : Nat), .int (endN N lane : Nat), .int (a'.t b)])
        have t19 := atNew hq2 (.tup [.int (endN N lane + N.lanes * a'.S.came.getD (endN N lane) 0 : Nat), .int (endN N lane : Nat), .int (a'.t b)])
        have ht19 := s19 _ _ ht18
        have hc19 := s19 _ _ hc18
        have hb19 := s19 _ _ hb18
        have hf19 := s19 _ _ hf18
        have hd19 := s19 _ _ hd18
        have u19 := u18.trans s19
        have dk19 := dk18.tups (Tups.of s19)
        have fn19 := (fn18.tups (Tups.of s19)).put (b := b) t19
        generalize L2.upd H18 q2 _ = H19 at s19 t19 ht19 hc19 hb19 hf19 hd19 u19 dk19 fn19 ⊢
        refine ⟨_, rfl, _, rfl, df, _, rfl, DPut.k (k := .inl (b : Int)) hf19 (by rw [sizeLine_eq]; lia), ?_⟩
        have ndf : dd ≠ df := lr15.n2
        have tp20 : Tups H19 (L2.upd H19 df (.dK (putK kf (.inl (b : Int)) (.ref q2)))) := fun x xs e => by rw [upd_ne (ne_of e hf19 (fun z => by cases z))]; exact e
        have ls20 : ∀ {x : Addr} {xs : List V}, H19 x = some (.lst xs) → L2.upd H19 df (.dK (putK kf (.inl (b : Int)) (.ref q2))) x = some (.lst xs) := fun e => by rw [upd_ne (ne_of e hf19 (fun z => by cases z))]; exact e
        have ht20 := ls20 ht19
        have hc20 := ls20 hc19
        have hb20 := ls20 hb19
        have hd20 : L2.upd H19 df (.dK (putK kf (.inl (b : Int)) (.ref q2))) dd = _ := (upd_ne ndf).trans hd19
        have hf20 : L2.upd H19 df (.dK (putK kf (.inl (b : Int)) (.ref q2))) df = _ := upd_same
        have u20 : Same H (L2.upd H19 df (.dK (putK kf (.inl (b : Int)) (.ref q2)))) := fun x u e => by rw [upd_ne (fdf e)]; exact u19 x u e
        have dk20 := dk19.tups tp20
        have fn20 := fn19.tups tp20
        generalize L2.upd H19 df (.dK (putK kf (.inl (b : Int)) (.ref q2))) = H20 at tp20 ht20 hc20 hb20 hd20 hf20 u20 dk20 fn20 ⊢
        refine ⟨_, rfl, _, rfl, lcm, _, endN N lane, _, rfl, rfl, SqL.of hc20, at1, _, _, rfl, rfl, lcm, _, _, endN N lane, rfl, rfl, hc20, ix_at (by rw [nums_len]; exact il), ?_⟩
        have e1 : ((a'.S.came.getD (endN N lane) 0 : Nat) : Int) + 1 = ((a'.S.came.getD (endN N lane) 0 + 1 : Nat) : Int) := by lia
        dsimp only
        rw [e1, nums_set]
        have ad : Adv N (paceF rs) a' b _ := ⟨lane, k0, hs, .inl ⟨kf0, rfl⟩⟩
        obtain ⟨pi2, pt2⟩ := pi'.adv ok ad
        have tp21 := Tups.lst (ys := nums (a'.S.came.set (endN N lane) (a'.S.came.getD (endN N lane) 0 + 1))) hc20
        have pb := (rok _ (List.mem_of_getElem? (show rs[b]? = some (rs.getD b default) by rw [List.getD_eq_getElem?_getD, List.getElem?_eq_getElem bn]; rfl))).2
        refine ⟨⟨_, _, _, _, _, _, _, rfl⟩, (upd_ne lb2).trans hb20, _, by lia, ch'.snoc le ad, pi2, ⟨(upd_ne n1).trans ht20, upd_same, ⟨_, (upd_ne (ne_of hd20 hc20 (fun z => by cases z))).trans hd20, (dk20.tups tp21).out⟩, ⟨_, (upd_ne (ne_of hf20 hc20 (fun z => by cases z))).trans hf20, fn20.tups tp21, ?_⟩, n1, ndf⟩, fun x u e => ?_, bt2.next pb ad⟩
        · have := put_len kf (.inl (b : Int)) (.ref q2)
          show _ ≤ (a'.S.nms ++ [_]).length
          rw [List.length_append]
          show _ ≤ a'.S.nms.length + 1
          lia
        · rw [upd_ne (fl e).2]; exact u20 x u e
      · have kl : k0 < N.forks.length := by lia
        obtain ⟨rest, er'⟩ := ln2 kl
        dsimp only
        rw [er', decide_eq_false (by simp)]
        refine iteF ?_
        have h18' : H18 ll = some (.lst (.int (k0 : Nat) :: nums rest)) := by rw [h18, er']; rfl
        have ks : k0 < a'.S.sets.length := by rw [pi'.os.sl]; exact kl
        have at1 := nums_at' a'.S.sets k0 ks
        have t2 : a'.S.sets.getD k0 0 < 2 := by
          rw [List.getD_eq_getElem?_getD, List.getElem?_eq_getElem ks]
          exact pi'.os.sv _ (List.getElem_mem ks)
        obtain ⟨g, fk, eg, ef, hg⟩ := na18.prs.get (i := k0) (List.getElem?_eq_getElem (show k0 < ps.length by lia))
        have hat : ps[k0]? = some (.ref g) := by rw [List.getElem?_eq_getElem (show k0 < ps.length by lia), eg]
        have eon : onT N a'.S b k0 = if a'.S.sets.getD k0 0 = 0 then fk.1 else fk.2 := by
          unfold onT
          rw [List.getD_eq_getElem?_getD (l := N.forks), ef]; rfl
        have at2 := two_at fk _ t2
        rw [← eon] at at2
        obtain ⟨p, hq1, hq2'⟩ := (ra.tups (Tups.of u18)).at_ bn
        refine ⟨_, rfl, ll, _, _, _, rfl, rfl, SqL.of h18', (atI_nat (j := 0) rfl : atI _ ((0 : Nat) : Int) = _), ?_⟩
        refine ⟨_, rfl, _, rfl, _, rfl, pr, _, _, _, rfl, rfl, SqT.of (u18 _ _ hpr), atI_nat hq1, p, _, 2, _, rfl, rfl, SqT.of hq2', rfl, _, _, rfl, rfl, _, rfl, r, _, 1, _, rfl, rfl, SqT.of na18.net, rfl, _, rfl, fr, _, _, _, rfl, rfl, SqT.of na18.forks, atI_nat hat, _, rfl, _, rfl, ltn, _, _, _, rfl, rfl, SqL.of ht18, atI_nat at1, g, _, _, _, rfl, rfl, SqT.of hg, atI_nat at2, _, rfl, _, _, rfl, rfl, by show 3 ≤ sizeLine; decide, fun q2 hq2 => ?_⟩
        dsimp only
        rw [← tb]
        have s19 := same_new hq2 (.tup [.int (a'.t b + (rs.getD b default).pace), .int (onT N a'.S b k0 : Nat), .int ((k0 : Nat) + 1)])
        have t19 := atNew hq2 (.tup [.int (a'.t b + (rs.getD b default).pace), .int (onT N a'.S b k0 : Nat), .int ((k0 : Nat) + 1)])
        have ht19 := s19 _ _ ht18
        have hc19 := s19 _ _ hc18
        have hb19 := s19 _ _ hb18
        have hf19 := s19 _ _ hf18
        have hd19 := s19 _ _ hd18
        have u19 := u18.trans s19
        obtain ⟨k', nk⟩ := next_ex N.forks (onT N a'.S b k0) (k0 + 1) (by lia)
        have dk19 := (dk18.tups (Tups.of s19)).go (told := a'.told) (t' := put1 a'.t b (a'.t b + paceF rs b)) hs rfl nk t19
        have fn19 := fn18.tups (Tups.of s19)
        generalize L2.upd H18 q2 _ = H19 at s19 t19 ht19 hc19 hb19 hf19 hd19 u19 dk19 fn19 ⊢
        have dl : (dropK kv (.inl (b : Int))).length ≤ kv.length := List.length_filter_le _ _
        have kvl := dk15.len
        have pln' := pi'.ln
        refine ⟨_, rfl, _, rfl, dd, _, rfl, DPut.k (k := .inl (b : Int)) hd19 (by rw [sizeLine_eq]; lia), ?_⟩
        have ndf : dd ≠ df := lr15.n2
        have tp20 : Tups H19 (L2.upd H19 dd (.dK (putK (dropK kv (.inl (b : Int))) (.inl (b : Int)) (.ref q2)))) := fun x xs e => by rw [upd_ne (ne_of e hd19 (fun z => by cases z))]; exact e
        have ls20 : ∀ {x : Addr} {xs : List V}, H19 x = some (.lst xs) → L2.upd H19 dd (.dK (putK (dropK kv (.inl (b : Int))) (.inl (b : Int)) (.ref q2))) x = some (.lst xs) := fun e => by rw [upd_ne (ne_of e hd19 (fun z => by cases z))]; exact e
        have ht20 := ls20 ht19
        have hc20 := ls20 hc19
        have hb20 := ls20 hb19
        have hd20 : L2.upd H19 dd (.dK (putK (dropK kv (.inl (b : Int))) (.inl (b : Int)) (.ref q2))) dd = _ := upd_same
        have hf20 : L2.upd H19 dd (.dK (putK (dropK kv (.inl (b : Int))) (.inl (b : Int)) (.ref q2))) df = _ := (upd_ne ndf.symm).trans hf19
        have u20 : Same H (L2.upd H19 dd (.dK (putK (dropK kv (.inl (b : Int))) (.inl (b : Int)) (.ref q2)))) := fun x u e => by rw [upd_ne (fdd e)]; exact u19 x u e
        have dk20 := dk19.tups tp20
        have fn20 := fn19.tups tp20
        generalize L2.upd H19 dd (.dK (putK (dropK kv (.inl (b : Int))) (.inl (b : Int)) (.ref q2))) = H20 at tp20 ht20 hc20 hb20 hd20 hf20 u20 dk20 fn20 ⊢
        refine ⟨_, rfl, _, rfl, ltn, _, _, _, rfl, rfl, SqL.of ht20, atI_nat at1, _, _, rfl, rfl, ?_⟩
        refine ⟨_, rfl, _, rfl, ltn, _, _, k0, rfl, rfl, ht20, ix_at (by rw [nums_len]; exact ks), ?_⟩
        have e1 : (1 : Int) - ((a'.S.sets.getD k0 0 : Nat) : Int) = ((1 - a'.S.sets.getD k0 0 : Nat) : Int) := by lia
        dsimp only
        rw [e1, nums_set]
        have ad : Adv N (paceF rs) a' b _ := ⟨lane, k0, hs, .inr ⟨kl, k', nk, rfl⟩⟩
        obtain ⟨pi2, pt2⟩ := pi'.adv ok ad
        have tp21 := Tups.lst (ys := nums (a'.S.sets.set k0 (1 - a'.S.sets.getD k0 0))) ht20
        have pb := (rok _ (List.mem_of_getElem? (show rs[b]? = some (rs.getD b default) by rw [List.getD_eq_getElem?_getD, List.getElem?_eq_getElem bn]; rfl))).2
        refine ⟨⟨_, _, _, _, _, _, _, rfl⟩, (upd_ne lb1).trans hb20, _, by lia, ch'.snoc le ad, pi2, ⟨upd_same, (upd_ne n1.symm).trans hc20, ⟨_, (upd_ne (ne_of hd20 ht20 (fun z => by cases z))).trans hd20, dk20.tups tp21⟩, ⟨_, (upd_ne (ne_of hf20 ht20 (fun z => by cases z))).trans hf20, fn20.tups tp21, kfl⟩, n1, ndf⟩, fun x u e => ?_, bt2.next pb ad⟩
        rw [upd_ne (fl e).1]; exact u20 x u e
    · rintro σ H15 ⟨⟨w7, w8, w9, w10, w11, w12, w13, rfl⟩, _, a', pt', ch', pi', lr15, u15, _⟩
      rw [List.length_map, List.length_map] at pt'
      exact ⟨_, by lia, ⟨_, _, _, _, _, _, _, _, rfl⟩, a', rfl, ch', pi', lr15, u15⟩
end
end K97
end
section
set_option maxHeartbeats 4000001
namespace Bn
open PySem L2 Own
theorem at_end {ps : List V} {x : V} (h : ps[ps.length - 1]? = some x) : atI ps (-1) = some x := by
  have ne : ps ≠ [] := by rintro rfl; simp at h
  have g : ps.getLast ne = x := by rw [List.getLast_eq_getElem]; exact (List.getElem?_eq_some_iff.mp h).2
  have e : ps = ps.dropLast ++ [x] := by rw [← g]; exact (List.dropLast_concat_getLast ne).symm
  rw [e]; exact atI_last _ _
theorem nums_perm' {ys zs : List V} (h : ys.Perm zs) : ∀ l : List Nat, zs = nums l → ∃ es : List Nat, ys = nums es ∧ es.Perm l := by
  induction h with
  | nil => intro l e; cases l with
    | nil => exact ⟨[], rfl, .nil⟩
    | cons a b => cases e
  | cons x _ ih => intro l e; cases l with
    | nil => cases e
    | cons a b =>
      have e' : x = .int a ∧ _ = nums b := List.cons.inj e
      obtain ⟨es, e1, p1⟩ := ih b e'.2
      exact ⟨a :: es, by rw [e'.1, e1]; rfl, p1.cons a⟩
  | swap x y t => intro l e; match l, e with
    | [], e => cases e
    | [_], e => cases (List.cons.inj e).2
    | a :: b :: c, e =>
      have e1 : x = .int a ∧ y :: t = nums (b :: c) := List.cons.inj e
      have e2 : y = .int b ∧ t = nums c := List.cons.inj e1.2
      exact ⟨b :: a :: c, by rw [e1.1, e2.1, e2.2]; rfl, .swap a b c⟩
  | trans _ _ i1 i2 =>
    intro l e
    obtain ⟨m, e1, p1⟩ := i2 l e
    obtain ⟨n, e2, p2⟩ := i1 m e1
    exact ⟨n, e2, p2.trans p1⟩
theorem nums_perm {ys : List V} {l : List Nat} (h : ys.Perm (nums l)) : ∃ es : List Nat, ys = nums es ∧ es.Perm l := nums_perm' h l rfl
theorem erase_perm {α : Type} : ∀ (xs : List α) (k : Nat) (h : k < xs.length), (xs[k] :: xs.eraseIdx k).Perm xs
  | x :: xs, 0, _ => .refl _
  | x :: xs, k + 1, h => by
    have hk : k < xs.length := by simpa using h
    have ih := erase_perm xs k hk
    exact (List.Perm.swap x xs[k] _).trans (ih.cons x)
end Bn
end
section
set_option maxHeartbeats 4000001
namespace K97
open PySem L2 Own Bn
abbrev sOf : Stmt := top 18
abbrev sPlaced : Stmt := top 19
abbrev sNet : Stmt := top 20
def spOf : Sp := fun vs H Q _ => ∃ (l q : Addr) (xs : List V), vs = [.ref l, .ref q] ∧ PkAt H l ∧ q ≠ l ∧ H q = some (.lst xs) ∧ 0 < xs.length ∧ xs.length ≤ 100000 ∧ ∀ (i : Nat) x H', xs[i]? = some x → PkAt H' l → But l H H' → Q x H'
def spPlaced : Sp := fun vs H Q _ => ∃ (l q : Addr) (xs : List V), vs = [.ref l, .ref q] ∧ PkAt H l ∧ q ≠ l ∧ H q = some (.lst xs) ∧ xs.length ≤ 1000 ∧ ∀ r ys H', ys.Perm xs → H r = none → H' r = some (.lst ys) → PkAt H' l → But l H H' → Q (.ref r) H'
def spNetL (most : Nat) : Sp := fun vs H Q _ => ∃ (l : Addr) (lanes : Nat), vs = [.ref l, .int lanes, .int most] ∧ PkAt H l ∧ 1 ≤ lanes ∧ lanes ≤ 16 ∧ ∀ r fr er ps N H', Nt.Ok N → N.lanes = lanes → N.forks.length ≤ most → NetAt H' r fr er ps N → PkAt H' l → But l H H' → Q (.ref r) H'
section
variable {P : Program} {w : World} {K : PySem.W.Frag} {mg : Str → Option Value} {base : Heap}
theorem scOf : FnScope ["_law_left_here", "_law_some"] ["_law_left_here", "_law_some"] (defScope sOf) := ⟨rfl, rfl, rfl, by decide +kernel, rfl, by decide +kernel, by decide +kernel⟩
theorem ok_of {f fK : Addr} {fd dK : FuncData} (F : Fun K "_law_of" "_law_of" sOf f fd) (G : Mgs mg) (UK : Use P w K mg base "_law_pick" ["_law_left_here", "_law_many"] 1 spPick fK dK) : FnOk P w K mg base CX0 2 f fd ["_law_left_here", "_law_some"] spOf := by
  refine F.ok scOf (fun vs H Q E h => ?_) (fun cdv A outer s H vs Q E hr h => ?_)
  · obtain ⟨l, q, xs, rfl, _⟩ := h
    rfl
  obtain ⟨l, q, xs, rfl, S, ne, hq, x0, xm, k⟩ := h
  refine ⟨_, (@pss_one _ _ _ (@ps_ret _ _ _ _ (@pe_ix _ _ _ _ _ _ _ ix_list (@pv _ 1 _ _ (by rfl) (by first | exact Or.inl rfl | exact Or.inr (Or.inl rfl) | exact Or.inr (Or.inr rfl)) (by decide) (by decide)) (@pe_call _ _ _ _ _ _ _ _ _ _ _ _ _ _ _ _ UK.ok hr (by rfl) UK.m UK.kp UK.b .nil pass0 (@pa_cons _ _ _ _ _ (@pv _ 0 _ _ (by rfl) (by first | exact Or.inl rfl | exact Or.inr (Or.inl rfl) | exact Or.inr (Or.inr rfl)) (by decide) (by decide)) (@pa_cons _ _ _ _ _ (@pe_callB _ _ _ _ _ _ _ _ _ call_len_seq (by rfl) G.len PySem.boot_len (@pa_cons _ _ _ _ _ (@pv _ 1 _ _ (by rfl) (by first | exact Or.inl rfl | exact Or.inr (Or.inl rfl) | exact Or.inr (Or.inr rfl)) (by decide) (by decide)) pa_nil (by rfl)) (by decide) (by decide) (by rfl) (by rfl)) pa_nil (by rfl)) (by rfl)) (by decide) (by rfl) (by rfl)) (fun _ _ => rfl)))), ?_⟩
  refine ⟨_, rfl, _, rfl, _, rfl, q, _, rfl, .inl (SqL.of hq), l, _, rfl, by lia, by lia, S, fun v H1 hv S1 B1 => ?_⟩
  have vl : v < xs.length := by lia
  exact ⟨q, _, _, _, rfl, rfl, SqL.of (B1 q _ hq ne), atI_nat (List.getElem?_eq_getElem vl), k v _ H1 (List.getElem?_eq_getElem vl) S1 B1⟩
theorem scPl : FnScope ["_law_left_here", "_law_some", "_law_found"] ["_law_left_here", "_law_some"] (defScope sPlaced) := ⟨rfl, rfl, rfl, by decide +kernel, rfl, by decide +kernel, by decide +kernel⟩
theorem ok_placed {f fK : Addr} {fd dK : FuncData} (F : Fun K "_law_placed" "_law_placed" sPlaced f fd) (G : Mgs mg) (UK : Use P w K mg base "_law_pick" ["_law_left_here", "_law_many"] 1 spPick fK dK) : FnOk P w K mg base CX0 2 f fd ["_law_left_here", "_law_some"] spPlaced := by
  refine F.ok scPl (fun vs H Q E h => ?_) (fun cdv A outer s H vs Q E hr h => ?_)
  · obtain ⟨l, q, xs, rfl, _⟩ := h
    rfl
  obtain ⟨l, q, xs, rfl, S, ne, hq, xm, k⟩ := h
  refine ⟨_, (@pss_cons _ _ _ _ _ (@ps_set _ _ 1 _ _ _ _ scPl.nd rfl (Or.inl rfl) (@pe_callTy _ _ _ _ _ _ _ _ _ call_list_of (by rfl) G.list (by rfl) (@pa_cons _ _ _ _ _ (@pv _ 1 _ _ (by rfl) (by first | exact Or.inl rfl | exact Or.inr (Or.inl rfl) | exact Or.inr (Or.inr rfl)) (by decide) (by decide)) pa_nil (by rfl)) (by decide) (by decide) (by rfl) (by rfl)) (by rfl) (by first | exact .inl rfl | exact .inr rfl | assumption)) (@pss_cons _ _ _ _ _ (@ps_set _ _ 2 _ _ _ _ scPl.nd rfl (Or.inl rfl) (@pe_lst _ _ _ _ pa_nil) (by rfl) (by first | exact .inl rfl | exact .inr rfl | assumption)) (@pss_cons _ _ _ _ _ (@ps_while _ _ _ _ _ _ PassesOwn.never (@pt_cmpR _ _ _ _ _ _ _ _ (op_neE hr.units0) (@pv _ 1 _ _ (by rfl) (by first | exact Or.inl rfl | exact Or.inr (Or.inl rfl) | exact Or.inr (Or.inr rfl)) (by decide) (by decide)) (@pe_lst _ _ _ _ pa_nil) (nomark _)) (@pss_one _ _ _ (@ps_expr _ _ _ _ (@pe_bm _ _ _ _ _ _ _ _ _ _ _ _ PySem.F.plainAttrs_list PySem.F.slot_list_append PySem.F.type_list_append mt_append (@pv _ 2 _ _ (by rfl) (by first | exact Or.inl rfl | exact Or.inr (Or.inl rfl) | exact Or.inr (Or.inr rfl)) (by decide) (by decide)) (@pa_cons _ _ _ _ _ (@pe_bm _ _ _ _ _ _ _ _ _ _ _ _ PySem.F.plainAttrs_list PySem.F.slot_list_pop PySem.F.type_list_pop mt_popAt (@pv _ 1 _ _ (by rfl) (by first | exact Or.inl rfl | exact Or.inr (Or.inl rfl) | exact Or.inr (Or.inr rfl)) (by decide) (by decide)) (@pa_cons _ _ _ _ _ (@pe_call _ _ _ _ _ _ _ _ _ _ _ _ _ _ _ _ UK.ok hr (by rfl) UK.m UK.kp UK.b .nil pass0 (@pa_cons _ _ _ _ _ (@pv _ 0 _ _ (by rfl) (by first | exact Or.inl rfl | exact Or.inr (Or.inl rfl) | exact Or.inr (Or.inr rfl)) (by decide) (by decide)) (@pa_cons _ _ _ _ _ (@pe_callB _ _ _ _ _ _ _ _ _ call_len_seq (by rfl) G.len PySem.boot_len (@pa_cons _ _ _ _ _ (@pv _ 1 _ _ (by rfl) (by first | exact Or.inl rfl | exact Or.inr (Or.inl rfl) | exact Or.inr (Or.inr rfl)) (by decide) (by decide)) pa_nil (by rfl)) (by decide) (by decide) (by rfl) (by rfl)) pa_nil (by rfl)) (by rfl)) (by decide) (by rfl) (by rfl)) pa_nil (by rfl)) (by rfl) (by rfl) (by rfl) (by rfl) (by rfl)) pa_nil (by rfl)) (by rfl) (by rfl) (by rfl) (by rfl) (by rfl)) (by rfl)))) (@pss_one _ _ _ (@ps_ret _ _ _ _ (@pv _ 2 _ _ (by rfl) (by first | exact Or.inl rfl | exact Or.inr (Or.inl rfl) | exact Or.inr (Or.inr rfl)) (by decide) (by decide))))))), ?_⟩
  refine ⟨_, rfl, q, _, rfl, .inl (SqL.of hq), fun lo hlo => ?_⟩
  have s1 := same_new hlo (.lst xs)
  have nlo := S.ne hlo
  refine ⟨(by show 0 ≤ sizeLine; decide), fun lt hlt => ?_⟩
  have s2 := same_new hlt (.lst [])
  have nlt := (S.keep s1).ne hlt
  have not : lo ≠ lt := ne_of_none upd_same hlt
  have flo : Frs l H lo := fun b o e _ => ne_of_none e hlo
  have flt : Frs l H lt := fun b o e _ => ne_of_none (s1 _ _ e) hlt
  have hlt0 : H lt = none := by
    cases z : H lt with
    | none => rfl
    | some o => rw [s1 _ _ z] at hlt; cases hlt
  refine ⟨fun m σ H3 => σ = [some (.ref l), some (.ref lo), some (.ref lt)] ∧ PkAt H3 l ∧ But l H H3 ∧ ∃ us ys, H3 lo = some (.lst us) ∧ us.length = m ∧ H3 lt = some (.lst ys) ∧ (ys ++ us).Perm xs,
    ⟨_, rfl, (S.keep s1).keep s2, (But.of s1).trans (But.of s2), xs, [], by rw [upd_ne not]; exact upd_same, rfl, upd_same, .refl _⟩, ?_⟩
  rintro m σ H3 ⟨rfl, S3, B3, us, ys, hu, ul, hy, pm⟩
  refine ⟨_, rfl, (by show 0 ≤ sizeLine; decide), fun e he => ?_⟩
  have s4 := same_new he (.lst [])
  refine ⟨lo, e, us, rfl, rfl, SqL.of (s4 _ _ hu), SqL.of upd_same, _, rfl, ?_⟩
  have S4 := S3.keep s4
  have B4 : But l H (L2.upd H3 e (.lst [])) := B3.trans (But.of s4)
  have hu4 := s4 _ _ hu
  have hy4 := s4 _ _ hy
  generalize L2.upd H3 e (.lst []) = H4 at *
  have tot : ys.length + us.length = xs.length := by rw [← List.length_append]; exact pm.length_eq
  by_cases un : us = []
  · rw [show (!us.isEmpty) = false by rw [un]; rfl]
    refine iteF ⟨_, rfl, k lt ys H4 ?_ hlt0 hy4 S4 B4⟩
    rw [un, List.append_nil] at pm; exact pm
  have up : 0 < us.length := List.length_pos_iff.mpr un
  rw [show (!us.isEmpty) = true by cases us with
    | nil => exact absurd rfl un
    | cons a b => rfl]
  refine iteT ⟨_, fun σ' H' hN => ⟨m - 1, by lia, hN⟩, ?_⟩
  refine ⟨_, rfl, .inl ⟨rfl, _, SqL.of hy4⟩, _, rfl, .inl ⟨rfl, _, SqL.of hu4⟩, _, rfl, _, rfl, lo, _, rfl, .inl (SqL.of hu4), l, _, rfl, by lia, by lia, S4, fun kk H5 hk S5 B5 => ?_⟩
  have kl : kk < us.length := by lia
  have hu5 := B5 lo _ hu4 nlo.symm
  have hy5 := B5 lt _ hy4 nlt.symm
  refine ⟨lo, _, _, kk, us[kk], rfl, rfl, hu5, by lia, by lia, (ixN_seq (ix_at (xs := us) (i := kk) kl)).1, List.getElem?_eq_getElem kl, ?_⟩
  have hy6 : upd H5 lo (.lst (us.eraseIdx kk)) lt = some (.lst ys) := by rw [upd_ne not.symm]; exact hy5
  refine ⟨lt, _, _, rfl, rfl, hy6, Nat.lt_of_lt_of_le (show ys.length < 1001 by lia) (by decide), rfl, (S5.upd nlo).upd nlt, ((B4.trans B5).upd flo).upd flt, us.eraseIdx kk, ys ++ [us[kk]], by rw [upd_ne not]; exact upd_same, by rw [List.length_eraseIdx, if_pos kl]; lia, upd_same, ?_⟩
  refine List.Perm.trans ?_ pm
  rw [List.append_assoc]
  refine List.Perm.append_left ys ?_
  exact erase_perm us kk kl
theorem scN : FnScope ["_law_left_here", "_law_lanes_here", "_law_most", "_law_forks", "_law_k", "_law_a", "_law_b", "_law_ends"] ["_law_left_here", "_law_lanes_here", "_law_most"] (defScope sNet) := ⟨rfl, rfl, rfl, by decide +kernel, rfl, by decide +kernel, by decide +kernel⟩
theorem ok_net {f fK fO fP : Addr} {fd dK dO dP : FuncData} (most : Nat) (hmost : most ≤ 100) (F : Fun K "_law_net" "_law_net" sNet f fd) (G : Mgs mg) (UK : Use P w K mg base "_law_pick" ["_law_left_here", "_law_many"] 1 spPick fK dK) (UO : Use P w K mg base "_law_of" ["_law_left_here", "_law_some"] 2 spOf fO dO) (UP : Use P w K mg base "_law_placed" ["_law_left_here", "_law_some"] 2 spPlaced fP dP) : FnOk P w K mg base CX0 3 f fd ["_law_left_here", "_law_lanes_here", "_law_most"] (spNetL most) := by
  refine F.ok scN (fun vs H Q E h => ?_) (fun cdv A outer s H vs Q E hr h => ?_)
  · obtain ⟨l, lanes, rfl, _⟩ := h
    rfl
  obtain ⟨l, lanes, rfl, S, l1, l16, k⟩ := h
  have hr1 : Room 1 _ := hr.mono (by decide)
  refine ⟨_, (@pss_cons _ _ _ _ _ (@ps_set _ _ 3 _ _ _ _ scN.nd rfl (Or.inl rfl) (@pe_lst _ _ _ _ pa_nil) (by rfl) (by first | exact .inl rfl | exact .inr rfl | assumption)) (@pss_cons _ _ _ _ _ (@ps_for _ _ _ _ _ _ _ _ PassesOwn.never rfl (@pi_range1 _ _ _ _ _ _ rfl G.range (@pa_cons _ _ _ _ _ (@pe_op _ _ _ _ _ _ _ _ op_mul (@pe_call _ _ _ _ _ _ _ _ _ _ _ _ _ _ _ _ UK.ok hr1 (by rfl) UK.m UK.kp UK.b .nil pass0 (@pa_cons _ _ _ _ _ (@pv _ 0 _ _ (by rfl) (by first | exact Or.inl rfl | exact Or.inr (Or.inl rfl) | exact Or.inr (Or.inr rfl)) (by decide) (by decide)) (@pa_cons _ _ _ _ _ (@pe_op _ _ _ _ _ _ _ _ op_add (@pv _ 2 _ _ (by rfl) (by first | exact Or.inl rfl | exact Or.inr (Or.inl rfl) | exact Or.inr (Or.inr rfl)) (by decide) (by decide)) pe_int) pa_nil (by rfl)) (by rfl)) (by decide) (by rfl) (by rfl)) (@pe_callTy _ _ _ _ _ _ _ _ _ call_int1 (by rfl) G.int (by rfl) (@pa_cons _ _ _ _ _ (@pe_cmpR _ _ _ _ _ _ _ _ op_gt (@pv _ 1 _ _ (by rfl) (by first | exact Or.inl rfl | exact Or.inr (Or.inl rfl) | exact Or.inr (Or.inr rfl)) (by decide) (by decide)) pe_int (nomark _)) pa_nil (by rfl)) (by decide) (by decide) (by rfl) (by rfl))) pa_nil (by rfl)) (by rfl)) (@pg_name _ _ 4 _ scN.nd rfl (Or.inl rfl) (by first | exact .inl rfl | exact .inr rfl | assumption)) (@pss_cons _ _ _ _ _ (@ps_set _ _ 5 _ _ _ _ scN.nd rfl (Or.inl rfl) (@pe_call _ _ _ _ _ _ _ _ _ _ _ _ _ _ _ _ UK.ok hr1 (by rfl) UK.m UK.kp UK.b .nil pass0 (@pa_cons _ _ _ _ _ (@pv _ 0 _ _ (by rfl) (by first | exact Or.inl rfl | exact Or.inr (Or.inl rfl) | exact Or.inr (Or.inr rfl)) (by decide) (by decide)) (@pa_cons _ _ _ _ _ (@pv _ 1 _ _ (by rfl) (by first | exact Or.inl rfl | exact Or.inr (Or.inl rfl) | exact Or.inr (Or.inr rfl)) (by decide) (by decide)) pa_nil (by rfl)) (by rfl)) (by decide) (by rfl) (by rfl)) (by rfl) (by first | exact .inl rfl | exact .inr rfl | assumption)) (@pss_cons _ _ _ _ _ (@ps_set _ _ 6 _ _ _ _ scN.nd rfl (Or.inl rfl) (@pe_op _ _ _ _ _ _ _ _ op_mod (@pe_op _ _ _ _ _ _ _ _ op_add (@pe_op _ _ _ _ _ _ _ _ op_add (@pv _ 5 _ _ (by rfl) (by first | exact Or.inl rfl | exact Or.inr (Or.inl rfl) | exact Or.inr (Or.inr rfl)) (by decide) (by decide)) pe_int) (@pe_call _ _ _ _ _ _ _ _ _ _ _ _ _ _ _ _ UK.ok hr1 (by rfl) UK.m UK.kp UK.b .nil pass0 (@pa_cons _ _ _ _ _ (@pv _ 0 _ _ (by rfl) (by first | exact Or.inl rfl | exact Or.inr (Or.inl rfl) | exact Or.inr (Or.inr rfl)) (by decide) (by decide)) (@pa_cons _ _ _ _ _ (@pe_op _ _ _ _ _ _ _ _ op_sub (@pv _ 1 _ _ (by rfl) (by first | exact Or.inl rfl | exact Or.inr (Or.inl rfl) | exact Or.inr (Or.inr rfl)) (by decide) (by decide)) pe_int) pa_nil (by rfl)) (by rfl)) (by decide) (by rfl) (by rfl))) (@pv _ 1 _ _ (by rfl) (by first | exact Or.inl rfl | exact Or.inr (Or.inl rfl) | exact Or.inr (Or.inr rfl)) (by decide) (by decide))) (by rfl) (by first | exact .inl rfl | exact .inr rfl | assumption)) (@pss_cons _ _ _ _ _ (@ps_if _ _ _ _ _ _ _ _ (@pw_and _ _ _ _ _ _ _ (@pt_cmpR _ _ _ _ _ _ _ _ (op_neE hr.units0) (@pv _ 3 _ _ (by rfl) (by first | exact Or.inl rfl | exact Or.inr (Or.inl rfl) | exact Or.inr (Or.inr rfl)) (by decide) (by decide)) (@pe_lst _ _ _ _ pa_nil) (nomark _)) (@pw_and1 _ _ _ _ (@pt_cmpR _ _ _ _ _ _ _ _ op_eq (@pe_call _ _ _ _ _ _ _ _ _ _ _ _ _ _ _ _ UK.ok hr1 (by rfl) UK.m UK.kp UK.b .nil pass0 (@pa_cons _ _ _ _ _ (@pv _ 0 _ _ (by rfl) (by first | exact Or.inl rfl | exact Or.inr (Or.inl rfl) | exact Or.inr (Or.inr rfl)) (by decide) (by decide)) (@pa_cons _ _ _ _ _ pe_int pa_nil (by rfl)) (by rfl)) (by decide) (by rfl) (by rfl)) pe_int (nomark _)))).pt (@pss_one _ _ _ (@ps_asg _ _ _ _ _ _ (@pe_turn _ _ _ _ _ _ _ (@pe_ix _ _ _ _ _ _ _ ix_list (@pv _ 3 _ _ (by rfl) (by first | exact Or.inl rfl | exact Or.inr (Or.inl rfl) | exact Or.inr (Or.inr rfl)) (by decide) (by decide)) (@pe_un _ _ _ _ _ _ un_neg pe_int) (fun _ _ => rfl)) (@po_some _ _ _ (@pe_call _ _ _ _ _ _ _ _ _ _ _ _ _ _ _ _ UO.ok hr (by rfl) UO.m UO.kp UO.b .nil pass0 (@pa_cons _ _ _ _ _ (@pv _ 0 _ _ (by rfl) (by first | exact Or.inl rfl | exact Or.inr (Or.inl rfl) | exact Or.inr (Or.inr rfl)) (by decide) (by decide)) (@pa_cons _ _ _ _ _ (@pe_lst _ _ _ _ (@pa_cons _ _ _ _ _ pe_int (@pa_cons _ _ _ _ _ (@pe_un _ _ _ _ _ _ un_neg pe_int) pa_nil (by rfl)) (by rfl))) pa_nil (by rfl)) (by rfl)) (by decide) (by rfl) (by rfl)))) (@pg_tup _ _ _ _ _ _ rfl (@pgs_cons _ _ _ _ _ (@pg_name _ _ 5 _ scN.nd rfl (Or.inl rfl) (by first | exact .inl rfl | exact .inr rfl | assumption)) (@pgs_cons _ _ _ _ _ (@pg_name _ _ 6 _ scN.nd rfl (Or.inl rfl) (by first | exact .inl rfl | exact .inr rfl | assumption)) pgs_nil (by rfl)) (by rfl)) (by rfl) (by rfl)) (by rfl) (by rfl) (by rfl))) pss_nil) (@pss_one _ _ _ (@ps_expr _ _ _ _ (@pe_bm _ _ _ _ _ _ _ _ _ _ _ _ PySem.F.plainAttrs_list PySem.F.slot_list_append PySem.F.type_list_append mt_append (@pv _ 3 _ _ (by rfl) (by first | exact Or.inl rfl | exact Or.inr (Or.inl rfl) | exact Or.inr (Or.inr rfl)) (by decide) (by decide)) (@pa_cons _ _ _ _ _ (@pe_tup _ _ _ _ _ (@pa_cons _ _ _ _ _ (@pv _ 5 _ _ (by rfl) (by first | exact Or.inl rfl | exact Or.inr (Or.inl rfl) | exact Or.inr (Or.inr rfl)) (by decide) (by decide)) (@pa_cons _ _ _ _ _ (@pv _ 6 _ _ (by rfl) (by first | exact Or.inl rfl | exact Or.inr (Or.inl rfl) | exact Or.inr (Or.inr rfl)) (by decide) (by decide)) pa_nil (by rfl)) (by rfl))) pa_nil (by rfl)) (by rfl) (by rfl) (by rfl) (by rfl) (by rfl)) (by rfl)))))) (by intro _; rfl)) (@pss_cons _ _ _ _ _ (@ps_set _ _ 7 _ _ _ _ scN.nd rfl (Or.inl rfl) (@pe_lstRng _ _ _ _ _ _ _ rfl (by rfl) G.list (by rfl) G.range (@pa_cons _ _ _ _ _ (@pv _ 1 _ _ (by rfl) (by first | exact Or.inl rfl | exact Or.inr (Or.inl rfl) | exact Or.inr (Or.inr rfl)) (by decide) (by decide)) pa_nil (by rfl)) (by rfl) (by rfl)) (by rfl) (by first | exact .inl rfl | exact .inr rfl | assumption)) (@pss_cons _ _ _ _ _ (@ps_if _ _ _ _ _ _ _ _ (@pt_cmpR _ _ _ _ _ _ _ _ op_eq (@pe_call _ _ _ _ _ _ _ _ _ _ _ _ _ _ _ _ UK.ok hr1 (by rfl) UK.m UK.kp UK.b .nil pass0 (@pa_cons _ _ _ _ _ (@pv _ 0 _ _ (by rfl) (by first | exact Or.inl rfl | exact Or.inr (Or.inl rfl) | exact Or.inr (Or.inr rfl)) (by decide) (by decide)) (@pa_cons _ _ _ _ _ pe_int pa_nil (by rfl)) (by rfl)) (by decide) (by rfl) (by rfl)) pe_int (nomark _)) (@pss_one _ _ _ (@ps_set _ _ 7 _ _ _ _ scN.nd rfl (Or.inl rfl) (@pe_call _ _ _ _ _ _ _ _ _ _ _ _ _ _ _ _ UP.ok hr (by rfl) UP.m UP.kp UP.b .nil pass0 (@pa_cons _ _ _ _ _ (@pv _ 0 _ _ (by rfl) (by first | exact Or.inl rfl | exact Or.inr (Or.inl rfl) | exact Or.inr (Or.inr rfl)) (by decide) (by decide)) (@pa_cons _ _ _ _ _ (@pv _ 7 _ _ (by rfl) (by first | exact Or.inl rfl | exact Or.inr (Or.inl rfl) | exact Or.inr (Or.inr rfl)) (by decide) (by decide)) pa_nil (by rfl)) (by rfl)) (by decide) (by rfl) (by rfl)) (by rfl) (by first | exact .inl rfl | exact .inr rfl | assumption))) pss_nil) (@pss_one _ _ _ (@ps_ret _ _ _ _ (@pe_tup _ _ _ _ _ (@pa_cons _ _ _ _ _ (@pv _ 1 _ _ (by rfl) (by first | exact Or.inl rfl | exact Or.inr (Or.inl rfl) | exact Or.inr (Or.inr rfl)) (by decide) (by decide)) (@pa_cons _ _ _ _ _ (@pe_callTy _ _ _ _ _ _ _ _ _ call_tuple_of (by rfl) G.tuple (by rfl) (@pa_cons _ _ _ _ _ (@pv _ 3 _ _ (by rfl) (by first | exact Or.inl rfl | exact Or.inr (Or.inl rfl) | exact Or.inr (Or.inr rfl)) (by decide) (by decide)) pa_nil (by rfl)) (by decide) (by decide) (by rfl) (by rfl)) (@pa_cons _ _ _ _ _ (@pe_callTy _ _ _ _ _ _ _ _ _ call_tuple_of (by rfl) G.tuple (by rfl) (@pa_cons _ _ _ _ _ (@pv _ 7 _ _ (by rfl) (by first | exact Or.inl rfl | exact Or.inr (Or.inl rfl) | exact Or.inr (Or.inr rfl)) (by decide) (by decide)) pa_nil (by rfl)) (by decide) (by decide) (by rfl) (by rfl)) pa_nil (by rfl)) (by rfl)) (by rfl))))))))), ?_⟩
  refine ⟨(by show 0 ≤ sizeLine; decide), fun lf hlf => ?_⟩
  have nlf := S.ne hlf
  have B0 : But l H (L2.upd H lf (.lst [])) := But.of (same_new hlf _)
  have flf : Frs l H lf := fun b o e _ => ne_of_none e hlf
  refine ⟨_, rfl, _, rfl, _, _, rfl, rfl, l, _, rfl, by lia, by lia, S.upd nlf, fun kv H1 hkv S1 B1 => ?_⟩
  refine ⟨_, rfl, _, _, rfl, rfl, .inr ⟨_, rfl, _, _, rfl, rfl, .inl ⟨by lia, by lia⟩, ?_⟩⟩
  have cb : ((kv : Int) * (if decide ((1 : Int) < lanes) = true then 1 else 0)) = ((if 1 < lanes then kv else 0 : Nat) : Int) := by
    by_cases z : 1 < lanes
    · rw [if_pos (decide_eq_true (by lia)), if_pos z]; lia
    · rw [if_neg (by rw [decide_eq_false (by lia)]; exact Bool.false_ne_true), if_neg z]; lia
  have cl : (if 1 < lanes then kv else 0) ≤ most := by split <;> lia
  refine ⟨_, rfl, by rw [cb]; lia, by rw [cb]; lia, ?_⟩
  rw [cb]
  generalize hcnt : (if 1 < lanes then kv else 0) = cnt at cl
  refine for_range (lo := 0) (n := ((cnt : Nat) : Int).toNat) (fun i σ H2 => (∃ w4 w5 w6 w7, σ = [some (.ref l), some (.int lanes), some (.int most), some (.ref lf), w4, w5, w6, w7]) ∧ PkAt H2 l ∧ But l H H2 ∧ ∃ ps fs, H2 lf = some (.lst ps) ∧ Prs H2 ps fs ∧ fs.length = i ∧ ∀ f ∈ fs, f.1 < lanes ∧ f.2 < lanes ∧ f.1 ≠ f.2)
    ⟨⟨_, _, _, _, rfl⟩, S1, B0.trans B1, [], [], B1 lf _ upd_same nlf.symm, trivial, rfl, fun f hf => by simp at hf⟩ ?_ ?_
  · rintro i σ H2 hi ⟨⟨w4, w5, w6, w7, rfl⟩, S2, B2, ps, fs, h2, p2, fl, fok⟩
    have l2 : 1 < lanes := by
      by_cases z : 1 < lanes
      · exact z
      · rw [if_neg z] at hcnt; lia
    refine ⟨_, rfl, _, rfl, l, lanes, rfl, by lia, by lia, S2, fun one H3 ho S3 B3 => ?_⟩
    refine ⟨_, rfl, _, _, rfl, rfl, _, rfl, _, rfl, _, _, rfl, rfl, l, _, rfl, by lia, by lia, S3, fun d H4 hd S4 B4 => ?_⟩
    refine ⟨_, _, rfl, rfl, _, rfl, _, _, rfl, rfl, by lia, ?_⟩
    have hone : one < lanes := by lia
    obtain ⟨ok1, ok2⟩ := other_ok (one := one) (d := d) (lanes := lanes) hone (by lia)
    have ec : ((one : Int) + 1 + d) % lanes = (((one + 1 + d) % lanes : Nat) : Int) := by rw [Int.natCast_emod, Int.natCast_add, Int.natCast_add]; rfl
    dsimp only
    rw [ec]
    generalize (one + 1 + d) % lanes = oth at ok1 ok2
    have h4 := B4 lf _ (B3 lf _ h2 nlf.symm) nlf.symm
    have p4 := p2.tups ((B3.tups S2).trans (B4.tups S3))
    have B4' : But l H H4 := (B2.trans B3).trans B4
    have fin : ∀ (a b : Nat) (H5 : Hp), a < lanes → b < lanes → a ≠ b → PkAt H5 l → But l H H5 → H5 lf = some (.lst ps) → Prs H5 ps fs → ∀ t : Addr, H5 t = none → ps.length < sizeLine ∧ PkAt (upd (upd H5 t (.tup [.int a, .int b])) lf (.lst (ps ++ [.ref t]))) l ∧ But l H (upd (upd H5 t (.tup [.int a, .int b])) lf (.lst (ps ++ [.ref t]))) ∧
        ∃ ps' fs', upd (upd H5 t (.tup [.int a, .int b])) lf (.lst (ps ++ [.ref t])) lf = some (.lst ps') ∧ Prs (upd (upd H5 t (.tup [.int a, .int b])) lf (.lst (ps ++ [.ref t]))) ps' fs' ∧ fs'.length = i + 1 ∧ ∀ f ∈ fs', f.1 < lanes ∧ f.2 < lanes ∧ f.1 ≠ f.2 := fun a b H5 ha hb ab S5 B5 h5 p5 t ht => by
      have st := same_new ht (.tup [.int a, .int b])
      have h6 := st _ _ h5
      have T6 : Tups (upd H5 t (.tup [.int a, .int b])) (upd (upd H5 t (.tup [.int a, .int b])) lf (.lst (ps ++ [.ref t]))) := Tups.lst h6
      refine ⟨by rw [p5.len, fl]; exact Nat.lt_of_lt_of_le (show i < 1000 by lia) (by decide), (S5.keep st).upd nlf, (B5.trans (But.of st)).upd flf, _, fs ++ [(a, b)], upd_same, ((p5.tups (Tups.of st)).tups T6).add (f := (a, b)) (T6 _ _ upd_same), by rw [List.length_append, fl]; rfl, fun f hf => ?_⟩
      rcases List.mem_append.mp hf with z | z
      · exact fok f z
      · rw [List.mem_singleton.mp z]; exact ⟨ha, hb, ab⟩
    refine ⟨_, rfl, (by show 0 ≤ sizeLine; decide), fun e he => ?_⟩
    have s5 := same_new he (.lst [])
    refine ⟨lf, e, ps, rfl, rfl, SqL.of (s5 _ _ h4), SqL.of upd_same, _, rfl, ?_⟩
    have S5 := S4.keep s5
    have B5 : But l H (L2.upd H4 e (.lst [])) := B4'.trans (But.of s5)
    have h5 := s5 _ _ h4
    have p5 := p4.tups (Tups.of s5)
    generalize L2.upd H4 e (.lst []) = H5 at *
    by_cases pn : ps = []
    · rw [show (!ps.isEmpty) = false by rw [pn]; rfl]
      refine iteF ?_
      refine ⟨_, rfl, .inl ⟨rfl, _, SqL.of h5⟩, _, rfl, _, rfl, (by show 2 ≤ sizeLine; decide), fun t ht => ?_⟩
      obtain ⟨z, a1, a2, a3⟩ := fin one oth H5 hone ok1 ok2 S5 B5 h5 p5 t ht
      exact ⟨lf, _, _, rfl, rfl, same_new ht _ _ _ h5, z, ⟨_, _, _, _, rfl⟩, a1, a2, a3⟩
    rw [show (!ps.isEmpty) = true by cases ps with
      | nil => exact absurd rfl pn
      | cons a b => rfl]
    refine iteT ⟨_, rfl, l, 4, rfl, by decide, by decide, S5, fun y H6 hy S6 B6 => ⟨rfl, _, rfl, ?_⟩⟩
    have h6 := B6 lf _ h5 nlf.symm
    have p6 := p5.tups (B6.tups S5)
    have B6' : But l H H6 := B5.trans B6
    refine ite2 (fun _ => ?_) (fun _ => ?_)
    · -- the last one anew
      have pp : 0 < ps.length := List.length_pos_iff.mpr pn
      have lx : ps[ps.length - 1]? = some ps[ps.length - 1] := List.getElem?_eq_getElem (by lia)
      obtain ⟨a, g, ea, eg, ha⟩ := p6.get lx
      have okg := fok g (List.mem_of_getElem? eg)
      rw [ea] at lx
      refine ⟨_, rfl, _, rfl, lf, _, _, _, rfl, rfl, SqL.of h6, at_end lx, ?_⟩
      refine ⟨_, rfl, _, rfl, (by show 2 ≤ sizeLine; decide), fun q hq => ?_⟩
      have s7 := same_new hq (.lst [.int 1, .int (-1)])
      have nlq := S6.ne hq
      refine ⟨l, q, _, rfl, S6.keep s7, nlq.symm, upd_same, by show 0 < 2; decide, by show 2 ≤ 100000; decide, fun j x H8 hx S8 B8 => ?_⟩
      have T8 : Tups H6 H8 := (Tups.of s7).trans (B8.tups (S6.keep s7))
      have h8 := B8 lf _ (s7 _ _ h6) nlf.symm
      have B8' : But l H H8 := (B6'.trans (But.of s7)).trans B8
      have jl := (List.getElem?_eq_some_iff.mp hx).1
      simp only [List.length_cons, List.length_nil] at jl
      rcases j with _ | _ | j
      · obtain rfl := Option.some.inj hx
        refine ⟨_, rfl, a, _, _, rfl, SqT.of (T8 _ _ ha), .inl ⟨rfl, ?_⟩⟩
        refine ⟨a, _, rfl, SqT.of (T8 _ _ ha), rfl, _, _, rfl, _, _, rfl, rfl, ?_⟩
        refine ⟨_, rfl, .inl ⟨rfl, _, SqL.of h8⟩, _, rfl, _, rfl, (by show 2 ≤ sizeLine; decide), fun t ht => ?_⟩
        obtain ⟨z, a1, a2, a3⟩ := fin g.1 g.2 H8 okg.1 okg.2.1 okg.2.2 S8 B8' h8 (p6.tups T8) t ht
        exact ⟨lf, _, _, rfl, rfl, same_new ht _ _ _ h8, z, ⟨_, _, _, _, rfl⟩, a1, a2, a3⟩
      · obtain rfl := Option.some.inj hx
        refine ⟨_, rfl, a, _, _, rfl, SqT.of (T8 _ _ ha), .inr ⟨rfl, fun b hb => ?_⟩⟩
        have s9 := same_new hb (.tup [.int g.2, .int g.1])
        refine ⟨b, _, rfl, SqT.of upd_same, rfl, _, _, rfl, _, _, rfl, rfl, ?_⟩
        refine ⟨_, rfl, .inl ⟨rfl, _, SqL.of (s9 _ _ h8)⟩, _, rfl, _, rfl, (by show 2 ≤ sizeLine; decide), fun t ht => ?_⟩
        obtain ⟨z, a1, a2, a3⟩ := fin g.2 g.1 _ okg.2.1 okg.1 (Ne.symm okg.2.2) (S8.keep s9) (B8'.trans (But.of s9)) (s9 _ _ h8) ((p6.tups T8).tups (Tups.of s9)) t ht
        exact ⟨lf, _, _, rfl, rfl, same_new ht _ _ _ (s9 _ _ h8), z, ⟨_, _, _, _, rfl⟩, a1, a2, a3⟩
      · lia
    · refine ⟨_, rfl, .inl ⟨rfl, _, SqL.of h6⟩, _, rfl, _, rfl, (by show 2 ≤ sizeLine; decide), fun t ht => ?_⟩
      obtain ⟨z, a1, a2, a3⟩ := fin one oth H6 hone ok1 ok2 S6 B6' h6 p6 t ht
      exact ⟨lf, _, _, rfl, rfl, same_new ht _ _ _ h6, z, ⟨_, _, _, _, rfl⟩, a1, a2, a3⟩
  · rintro σ H2 ⟨⟨w4, w5, w6, w7, rfl⟩, S2, B2, ps, fs, h2, p2, fl, fok⟩
    refine ⟨_, rfl, lanes, rfl, by lia, fun le hle => ?_⟩
    have s3 := same_new hle (if true = true then HO.lst (upTo lanes) else .tup (upTo lanes))
    have e3 : upd H2 le (if true = true then HO.lst (upTo lanes) else .tup (upTo lanes)) le = some (.lst (nums (List.range lanes))) := upd_same
    have nle := S2.ne hle
    have S3 := S2.keep s3
    have B3 : But l H (upd H2 le (if true = true then HO.lst (upTo lanes) else .tup (upTo lanes))) := B2.trans (But.of s3)
    have h3 := s3 _ _ h2
    have p3 := p2.tups (Tups.of s3)
    generalize upd H2 le (if true = true then HO.lst (upTo lanes) else .tup (upTo lanes)) = H3 at *
    have fin : ∀ (el : Addr) (es : List Nat) (w4 w5 w6 : Option V) (H4 : Hp), es.Perm (List.range lanes) → H4 el = some (.lst (nums es)) → PkAt H4 l → But l H H4 → H4 lf = some (.lst ps) → Prs H4 ps fs → ∀ fr, H4 fr = none → ∀ er, upd H4 fr (.tup ps) er = none → ∀ r, upd (upd H4 fr (.tup ps)) er (.tup (nums es)) r = none → Q (.ref r) (upd (upd (upd H4 fr (.tup ps)) er (.tup (nums es))) r (.tup [.int lanes, .ref fr, .ref er])) := fun el es w4 w5 w6 H4 pe he S4 B4 h4 p4 fr hfr er her r hr' => by
      have t1 := same_new hfr (.tup ps)
      have t2 := same_new her (.tup (nums es))
      have t3 := same_new hr' (.tup [.int lanes, .ref fr, .ref er])
      have t := (t1.trans t2).trans t3
      exact k r fr er ps ⟨lanes, fs, es⟩ _ ⟨l1, l16, by show fs.length ≤ 128; lia, fok, pe⟩ rfl (by show fs.length ≤ most; lia) ⟨upd_same, (t2.trans t3) _ _ upd_same, p4.tups (Tups.of t), t3 _ _ upd_same⟩ (S4.keep t) (B4.trans (But.of t))
    refine ⟨_, rfl, l, 2, rfl, by decide, by decide, S3, fun y H4 hy S4 B4 => ⟨rfl, _, rfl, ?_⟩⟩
    have e4 := B4 le _ e3 nle.symm
    have h4 := B4 lf _ h3 nlf.symm
    have p4 := p3.tups (B4.tups S3)
    refine ite2 (fun _ => ?_) (fun _ => ?_)
    · refine ⟨_, rfl, _, rfl, l, le, _, rfl, S4, nle.symm, e4, by rw [nums_len, List.length_range]; lia, fun el ys H5 pm hel e5 S5 B5 => ?_⟩
      obtain ⟨es, rfl, pe⟩ : ∃ es : List Nat, ys = nums es ∧ es.Perm (List.range lanes) := nums_perm pm
      have h5 := B5 lf _ h4 nlf.symm
      refine ⟨_, rfl, _, rfl, lf, _, rfl, .inl ⟨SqL.of h5, fun fr hfr => ⟨_, rfl, el, _, rfl, .inl ⟨SqL.of (same_new hfr _ _ _ e5), fun er her => ⟨(by show 3 ≤ sizeLine; decide), fun r hr' => ?_⟩⟩⟩⟩⟩
      exact fin el es none none none H5 pe e5 S5 ((B3.trans B4).trans B5) h5 (p4.tups (B5.tups S4)) fr hfr er her r hr'
    · refine ⟨_, rfl, _, rfl, lf, _, rfl, .inl ⟨SqL.of h4, fun fr hfr => ⟨_, rfl, le, _, rfl, .inl ⟨SqL.of (same_new hfr _ _ _ e4), fun er her => ⟨(by show 3 ≤ sizeLine; decide), fun r hr' => ?_⟩⟩⟩⟩⟩
      exact fin le _ none none none H4 (.refl _) e4 S4 (B3.trans B4) h4 p4 fr hfr er her r hr'
end
end K97
end
section
set_option maxHeartbeats 4000001
namespace K97
open PySem L2 Own Bn
abbrev sLanes : Stmt := top 21
def spLanes : Sp := fun vs H Q _ => ∃ (l : Addr), vs = [.ref l] ∧ PkAt H l ∧ ∀ (n : Nat) H', 1 ≤ n → n ≤ 16 → PkAt H' l → But l H H' → Q (.int n) H'
theorem nums_at {ls : List Nat} {i : Nat} {x : V} (h : (nums ls)[i]? = some x) : ∃ n, n ∈ ls ∧ x = .int (n : Nat) := by
  unfold nums at h
  rw [List.getElem?_map] at h
  cases z : ls[i]? with
  | none => rw [z] at h; cases h
  | some n => rw [z] at h; exact ⟨n, List.mem_of_getElem? z, (Option.some.inj h).symm⟩
section
variable {P : Program} {w : World} {K : PySem.W.Frag} {mg : Str → Option Value} {base : Heap}
theorem scLa : FnScope ["_law_left_here"] ["_law_left_here"] (defScope sLanes) := ⟨rfl, rfl, rfl, by decide +kernel, rfl, by decide +kernel, by decide +kernel⟩
theorem ok_lanes {f fO : Addr} {fd dO : FuncData} (F : Fun K "_law_lanes" "_law_lanes" sLanes f fd) (G : Mgs mg) (UO : Use P w K mg base "_law_of" ["_law_left_here", "_law_some"] 2 spOf fO dO) : FnOk P w K mg base CX0 3 f fd ["_law_left_here"] spLanes := by
  refine F.ok scLa (fun vs H Q E h => ?_) (fun cdv A outer s H vs Q E hr h => ?_)
  · obtain ⟨l, rfl, _⟩ := h
    rfl
  obtain ⟨l, rfl, S, k⟩ := h
  refine ⟨_, (@pss_one _ _ _ (@ps_ret _ _ _ _ (@pe_call _ _ _ _ _ _ _ _ _ _ _ _ _ _ _ _ UO.ok hr (by rfl) UO.m UO.kp UO.b .nil pass0 (@pa_cons _ _ _ _ _ (@pv _ 0 _ _ (by rfl) (by first | exact Or.inl rfl | exact Or.inr (Or.inl rfl) | exact Or.inr (Or.inr rfl)) (by decide) (by decide)) (@pa_cons _ _ _ _ _ (@pe_lst _ _ _ _ (@pa_cons _ _ _ _ _ pe_int (@pa_cons _ _ _ _ _ pe_int (@pa_cons _ _ _ _ _ pe_int (@pa_cons _ _ _ _ _ pe_int (@pa_cons _ _ _ _ _ pe_int (@pa_cons _ _ _ _ _ pe_int (@pa_cons _ _ _ _ _ pe_int (@pa_cons _ _ _ _ _ pe_int pa_nil (by rfl)) (by rfl)) (by rfl)) (by rfl)) (by rfl)) (by rfl)) (by rfl)) (by rfl))) pa_nil (by rfl)) (by rfl)) (by decide) (by rfl) (by rfl)))), ?_⟩
  refine ⟨_, rfl, (by show 8 ≤ sizeLine; decide), fun q hq => ?_⟩
  have s1 := same_new hq (.lst (nums [1, 2, 2, 3, 4, 5, 6, 16]))
  refine ⟨l, q, nums [1, 2, 2, 3, 4, 5, 6, 16], rfl, S.keep s1, (S.ne hq).symm, upd_same, by show 0 < 8; decide, by show 8 ≤ 100000; decide, fun i x H' hx S' B' => ?_⟩
  obtain ⟨n, nm, rfl⟩ := nums_at hx
  have b : ∀ n ∈ ([1, 2, 2, 3, 4, 5, 6, 16] : List Nat), 1 ≤ n ∧ n ≤ 16 := by decide
  exact k n H' (b n nm).1 (b n nm).2 S' ((But.of s1).trans B')
end
end K97
end
section
set_option maxHeartbeats 4000001
namespace K97
open PySem L2 Own Bn
abbrev sRuns : Stmt := top 22
theorem RunsAt.snoc {H : Hp} {qs : List V} {rs : List RunP} {t : Addr} {x : RunP} (h : RunsAt H qs rs) (ht : H t = some (.tup [.int (x.lane : Nat), .int x.start, .int x.pace])) : RunsAt H (qs ++ [.ref t]) (rs ++ [x]) := by
  refine ⟨by rw [List.length_append, List.length_append, h.1]; rfl, fun i q r e1 e2 => ?_⟩
  by_cases c : i < qs.length
  · rw [List.getElem?_append_left c] at e1
    rw [List.getElem?_append_left (by rw [← h.1]; exact c)] at e2
    exact h.2 i q r e1 e2
  · rw [List.getElem?_append_right (by lia)] at e1
    rw [List.getElem?_append_right (by rw [← h.1]; lia), ← h.1] at e2
    have i0 : i - qs.length = 0 := by
      have := (List.getElem?_eq_some_iff.mp e1).1
      simp at this; lia
    rw [i0] at e1 e2
    cases e1; cases e2
    exact ⟨t, rfl, ht⟩
def spRuns : Sp := fun vs H Q _ => ∃ l r fr er ps N, ∃ most : Nat, vs = [.ref l, .ref r, .int (most : Nat)] ∧ most ≤ 60 ∧ PkAt H l ∧ Nt.Ok N ∧ NetAt H r fr er ps N ∧ ∀ p qs rs H', H' p = some (.tup qs) → RunsAt H' qs rs → rs.length ≤ 60 → (∀ x ∈ rs, x.lane < N.lanes ∧ 1 ≤ x.pace) → PkAt H' l → But l H H' → Q (.ref p) H'
section
variable {P : Program} {w : World} {K : PySem.W.Frag} {mg : Str → Option Value} {base : Heap}
theorem scRs : FnScope ["_law_left_here", "_law_net_here", "_law_most", "_law_some", "_law_found", "_law_k", "_law_start", "_law_pace"] ["_law_left_here", "_law_net_here", "_law_most"] (defScope sRuns) := ⟨rfl, rfl, rfl, by decide +kernel, rfl, by decide +kernel, by decide +kernel⟩
theorem ok_runs {f fK fO : Addr} {fd dK dO : FuncData} (F : Fun K "_law_runs" "_law_runs" sRuns f fd) (G : Mgs mg) (UK : Use P w K mg base "_law_pick" ["_law_left_here", "_law_many"] 1 spPick fK dK) (UO : Use P w K mg base "_law_of" ["_law_left_here", "_law_some"] 2 spOf fO dO) : FnOk P w K mg base CX0 3 f fd ["_law_left_here", "_law_net_here", "_law_most"] spRuns := by
  refine F.ok scRs (fun vs H Q E h => ?_) (fun cdv A outer s H vs Q E hr h => ?_)
  · obtain ⟨l, r, fr, er, ps, N, most, rfl, _⟩ := h
    rfl
  obtain ⟨l, r, fr, er, ps, N, most, rfl, m60, S, ok, na, k⟩ := h
  have hr1 : Room 1 _ := hr.mono (by decide)
  have l16 := ok.l16
  have l1 := ok.l1
  refine ⟨_, (@pss_cons _ _ _ _ _ (@ps_set _ _ 3 _ _ _ _ scRs.nd rfl (Or.inl rfl) (@pe_call _ _ _ _ _ _ _ _ _ _ _ _ _ _ _ _ UK.ok hr1 (by rfl) UK.m UK.kp UK.b .nil pass0 (@pa_cons _ _ _ _ _ (@pv _ 0 _ _ (by rfl) (by first | exact Or.inl rfl | exact Or.inr (Or.inl rfl) | exact Or.inr (Or.inr rfl)) (by decide) (by decide)) (@pa_cons _ _ _ _ _ pe_int pa_nil (by rfl)) (by rfl)) (by decide) (by rfl) (by rfl)) (by rfl) (by first | exact .inl rfl | exact .inr rfl | assumption)) (@pss_cons _ _ _ _ _ (@ps_set _ _ 4 _ _ _ _ scRs.nd rfl (Or.inl rfl) (@pe_lst _ _ _ _ pa_nil) (by rfl) (by first | exact .inl rfl | exact .inr rfl | assumption)) (@pss_cons _ _ _ _ _ (@ps_for _ _ _ _ _ _ _ _ PassesOwn.never rfl (@pi_range1 _ _ _ _ _ _ rfl G.range (@pa_cons _ _ _ _ _ (@pe_call _ _ _ _ _ _ _ _ _ _ _ _ _ _ _ _ UO.ok hr (by rfl) UO.m UO.kp UO.b .nil pass0 (@pa_cons _ _ _ _ _ (@pv _ 0 _ _ (by rfl) (by first | exact Or.inl rfl | exact Or.inr (Or.inl rfl) | exact Or.inr (Or.inr rfl)) (by decide) (by decide)) (@pa_cons _ _ _ _ _ (@pe_lst _ _ _ _ (@pa_cons _ _ _ _ _ pe_int (@pa_cons _ _ _ _ _ pe_int (@pa_cons _ _ _ _ _ pe_int (@pa_cons _ _ _ _ _ pe_int (@pa_cons _ _ _ _ _ pe_int (@pa_cons _ _ _ _ _ (@pv _ 2 _ _ (by rfl) (by first | exact Or.inl rfl | exact Or.inr (Or.inl rfl) | exact Or.inr (Or.inr rfl)) (by decide) (by decide)) pa_nil (by rfl)) (by rfl)) (by rfl)) (by rfl)) (by rfl)) (by rfl))) pa_nil (by rfl)) (by rfl)) (by decide) (by rfl) (by rfl)) pa_nil (by rfl)) (by rfl)) (@pg_name _ _ 5 _ scRs.nd rfl (Or.inl rfl) (by first | exact .inl rfl | exact .inr rfl | assumption)) (@pss_cons _ _ _ _ _ (@ps_set _ _ 6 _ _ _ _ scRs.nd rfl (Or.inl rfl) (@pe_call _ _ _ _ _ _ _ _ _ _ _ _ _ _ _ _ UK.ok hr1 (by rfl) UK.m UK.kp UK.b .nil pass0 (@pa_cons _ _ _ _ _ (@pv _ 0 _ _ (by rfl) (by first | exact Or.inl rfl | exact Or.inr (Or.inl rfl) | exact Or.inr (Or.inr rfl)) (by decide) (by decide)) (@pa_cons _ _ _ _ _ (@pe_ix _ _ _ _ _ _ _ ix_list (@pe_lst _ _ _ _ (@pa_cons _ _ _ _ _ pe_int (@pa_cons _ _ _ _ _ pe_int (@pa_cons _ _ _ _ _ pe_int (@pa_cons _ _ _ _ _ pe_int pa_nil (by rfl)) (by rfl)) (by rfl)) (by rfl))) (@pv _ 3 _ _ (by rfl) (by first | exact Or.inl rfl | exact Or.inr (Or.inl rfl) | exact Or.inr (Or.inr rfl)) (by decide) (by decide)) (fun _ _ => rfl)) pa_nil (by rfl)) (by rfl)) (by decide) (by rfl) (by rfl)) (by rfl) (by first | exact .inl rfl | exact .inr rfl | assumption)) (@pss_cons _ _ _ _ _ (@ps_if _ _ _ _ _ _ _ _ (@pt_cmpR _ _ _ _ _ _ _ _ op_eq (@pe_call _ _ _ _ _ _ _ _ _ _ _ _ _ _ _ _ UK.ok hr1 (by rfl) UK.m UK.kp UK.b .nil pass0 (@pa_cons _ _ _ _ _ (@pv _ 0 _ _ (by rfl) (by first | exact Or.inl rfl | exact Or.inr (Or.inl rfl) | exact Or.inr (Or.inr rfl)) (by decide) (by decide)) (@pa_cons _ _ _ _ _ pe_int pa_nil (by rfl)) (by rfl)) (by decide) (by rfl) (by rfl)) pe_int (nomark _)) (@pss_one _ _ _ (@ps_set _ _ 6 _ _ _ _ scRs.nd rfl (Or.inl rfl) (@pe_op _ _ _ _ _ _ _ _ op_add (@pe_callTy _ _ _ _ _ _ _ _ _ call_intShort (by rfl) G.int (by rfl) (@pa_cons _ _ _ _ _ (@pe_op _ _ _ _ _ _ _ _ op_add_str pe_str (@pe_op _ _ _ _ _ _ _ _ op_repS pe_str (@pe_call _ _ _ _ _ _ _ _ _ _ _ _ _ _ _ _ UK.ok hr1 (by rfl) UK.m UK.kp UK.b .nil pass0 (@pa_cons _ _ _ _ _ (@pv _ 0 _ _ (by rfl) (by first | exact Or.inl rfl | exact Or.inr (Or.inl rfl) | exact Or.inr (Or.inr rfl)) (by decide) (by decide)) (@pa_cons _ _ _ _ _ pe_int pa_nil (by rfl)) (by rfl)) (by decide) (by rfl) (by rfl)))) pa_nil (by rfl)) (by decide) (by decide) (by rfl) (by rfl)) (@pv _ 6 _ _ (by rfl) (by first | exact Or.inl rfl | exact Or.inr (Or.inl rfl) | exact Or.inr (Or.inr rfl)) (by decide) (by decide))) (by rfl) (by first | exact .inl rfl | exact .inr rfl | assumption))) pss_nil) (@pss_cons _ _ _ _ _ (@ps_set _ _ 7 _ _ _ _ scRs.nd rfl (Or.inl rfl) (@pe_op _ _ _ _ _ _ _ _ op_add pe_int (@pe_call _ _ _ _ _ _ _ _ _ _ _ _ _ _ _ _ UK.ok hr1 (by rfl) UK.m UK.kp UK.b .nil pass0 (@pa_cons _ _ _ _ _ (@pv _ 0 _ _ (by rfl) (by first | exact Or.inl rfl | exact Or.inr (Or.inl rfl) | exact Or.inr (Or.inr rfl)) (by decide) (by decide)) (@pa_cons _ _ _ _ _ (@pe_call _ _ _ _ _ _ _ _ _ _ _ _ _ _ _ _ UO.ok hr (by rfl) UO.m UO.kp UO.b .nil pass0 (@pa_cons _ _ _ _ _ (@pv _ 0 _ _ (by rfl) (by first | exact Or.inl rfl | exact Or.inr (Or.inl rfl) | exact Or.inr (Or.inr rfl)) (by decide) (by decide)) (@pa_cons _ _ _ _ _ (@pe_lst _ _ _ _ (@pa_cons _ _ _ _ _ pe_int (@pa_cons _ _ _ _ _ pe_int (@pa_cons _ _ _ _ _ pe_int (@pa_cons _ _ _ _ _ pe_int (@pa_cons _ _ _ _ _ (@pe_op _ _ _ _ _ _ _ _ op_pow pe_int pe_int) pa_nil (by rfl)) (by rfl)) (by rfl)) (by rfl)) (by rfl))) pa_nil (by rfl)) (by rfl)) (by decide) (by rfl) (by rfl)) pa_nil (by rfl)) (by rfl)) (by decide) (by rfl) (by rfl))) (by rfl) (by first | exact .inl rfl | exact .inr rfl | assumption)) (@pss_one _ _ _ (@ps_expr _ _ _ _ (@pe_bm _ _ _ _ _ _ _ _ _ _ _ _ PySem.F.plainAttrs_list PySem.F.slot_list_append PySem.F.type_list_append mt_append (@pv _ 4 _ _ (by rfl) (by first | exact Or.inl rfl | exact Or.inr (Or.inl rfl) | exact Or.inr (Or.inr rfl)) (by decide) (by decide)) (@pa_cons _ _ _ _ _ (@pe_tup _ _ _ _ _ (@pa_cons _ _ _ _ _ (@pe_call _ _ _ _ _ _ _ _ _ _ _ _ _ _ _ _ UK.ok hr1 (by rfl) UK.m UK.kp UK.b .nil pass0 (@pa_cons _ _ _ _ _ (@pv _ 0 _ _ (by rfl) (by first | exact Or.inl rfl | exact Or.inr (Or.inl rfl) | exact Or.inr (Or.inr rfl)) (by decide) (by decide)) (@pa_cons _ _ _ _ _ (@pe_ix _ _ _ _ _ _ _ ix_tup (@pv _ 1 _ _ (by rfl) (by first | exact Or.inl rfl | exact Or.inr (Or.inl rfl) | exact Or.inr (Or.inr rfl)) (by decide) (by decide)) pe_int (fun _ _ => rfl)) pa_nil (by rfl)) (by rfl)) (by decide) (by rfl) (by rfl)) (@pa_cons _ _ _ _ _ (@pv _ 6 _ _ (by rfl) (by first | exact Or.inl rfl | exact Or.inr (Or.inl rfl) | exact Or.inr (Or.inr rfl)) (by decide) (by decide)) (@pa_cons _ _ _ _ _ (@pv _ 7 _ _ (by rfl) (by first | exact Or.inl rfl | exact Or.inr (Or.inl rfl) | exact Or.inr (Or.inr rfl)) (by decide) (by decide)) pa_nil (by rfl)) (by rfl)) (by rfl))) pa_nil (by rfl)) (by rfl) (by rfl) (by rfl) (by rfl) (by rfl)) (by rfl)))))) (by intro _; rfl)) (@pss_one _ _ _ (@ps_ret _ _ _ _ (@pe_callTy _ _ _ _ _ _ _ _ _ call_tuple_of (by rfl) G.tuple (by rfl) (@pa_cons _ _ _ _ _ (@pv _ 4 _ _ (by rfl) (by first | exact Or.inl rfl | exact Or.inr (Or.inl rfl) | exact Or.inr (Or.inr rfl)) (by decide) (by decide)) pa_nil (by rfl)) (by decide) (by decide) (by rfl) (by rfl))))))), ?_⟩
  refine ⟨_, rfl, l, 4, rfl, by decide, by decide, S, fun kd H1 hkd S1 B1 => ?_⟩
  refine ⟨(by show 0 ≤ sizeLine; decide), fun lf hlf => ?_⟩
  have nlf := S1.ne hlf
  have flf := B1.frs hlf
  have s2 := same_new hlf (.lst [])
  have S2 := S1.keep s2
  refine ⟨_, rfl, _, rfl, (by show 6 ≤ sizeLine; decide), fun q hq => ?_⟩
  have s3 := same_new hq (.lst (nums [0, 1, 2, 5, 12, most]))
  refine ⟨l, q, nums [0, 1, 2, 5, 12, most], rfl, S2.keep s3, (S2.ne hq).symm, upd_same, by show 0 < 6; decide, by show 6 ≤ 100000; decide, fun i x H4 hx S4 B4 => ?_⟩
  obtain ⟨cnt, cm, rfl⟩ := nums_at hx
  have cb : cnt ≤ 60 := by
    simp only [List.mem_cons, List.mem_nil_iff, or_false] at cm
    lia
  have h4 : H4 lf = some (.lst []) := B4 lf _ (s3 _ _ upd_same) nlf.symm
  have T4 : Tups H H4 := (B1.tups S).trans ((Tups.of (s2.trans s3)).trans (B4.tups (S2.keep s3)))
  refine ⟨cnt, rfl, by lia, by lia, ?_⟩
  refine for_range (lo := 0) (n := ((cnt : Nat) : Int).toNat) (fun j σ H5 => (∃ w5 w6 w7, σ = [some (.ref l), some (.ref r), some (.int (most : Nat)), some (.int kd), some (.ref lf), w5, w6, w7]) ∧ PkAt H5 l ∧ But l H H5 ∧ NetAt H5 r fr er ps N ∧ ∃ qs, H5 lf = some (.lst qs) ∧ qs.length = j ∧ ∃ rs, RunsAt H5 qs rs ∧ ∀ x ∈ rs, x.lane < N.lanes ∧ 1 ≤ x.pace)
    ⟨⟨_, _, _, rfl⟩, S4, (B1.trans (But.of (s2.trans s3))).trans B4, na.tups T4, [], h4, rfl, [], ⟨rfl, fun i q r e => by simp at e⟩, fun x hx => (List.not_mem_nil hx).elim⟩ ?_ ?_
  · rintro j σ H5 hj ⟨⟨w5, w6, w7, rfl⟩, S5, B5, na5, qs, h5, ql, rs, rn, rg⟩
    refine ⟨_, rfl, (by show 4 ≤ sizeLine; decide), fun p1 hp1 => ?_⟩
    have s6 := same_new hp1 (.lst (nums [1, 4, 40, 400]))
    obtain ⟨n, nm, hat⟩ := pick_at (xs := [1, 4, 40, 400]) (v := kd) (by show kd < 4; lia)
    have nb : ∀ n ∈ ([1, 4, 40, 400] : List Nat), 1 ≤ n ∧ n ≤ 400 := by decide
    obtain ⟨n1, n2⟩ := nb n nm
    refine ⟨_, rfl, p1, _, _, _, rfl, rfl, SqL.of upd_same, hat, l, n, rfl, by lia, by lia, S5.keep s6, fun st H7 _ S7 B7 => ?_⟩
    have h7 := B7 lf _ (s6 _ _ h5) nlf.symm
    have T7 : Tups H5 H7 := (Tups.of s6).trans (B7.tups (S5.keep s6))
    have B57 : But l H H7 := (B5.trans (But.of s6)).trans B7
    refine ⟨_, rfl, l, 9, rfl, by decide, by decide, S7, fun y H8 _ S8 B8 => ⟨rfl, _, rfl, ?_⟩⟩
    have h8 := B8 lf _ h7 nlf.symm
    have T8 := T7.trans (B8.tups S7)
    have B58 := B57.trans B8
    refine ite2 (fun _ => ?_) (fun _ => ?_)
    · refine ⟨_, rfl, l, 29, rfl, by decide, by decide, S8, fun z H9 hz S9 B9 => ?_⟩
      refine ⟨48, _, rfl, rfl, by lia, by lia, fun zs hzs => ?_⟩
      obtain ⟨d1, d2, d3⟩ := long_ok hzs
      have zl : zs.length = ((z : Nat) : Int).toNat := by
        have := congrArg List.length hzs
        rw [Array.length_toList, List.length_replicate] at this
        exact this
      refine ⟨_, _, rfl, rfl, by rw [zl]; exact Nat.le_trans (show 1 + ((z : Nat) : Int).toNat ≤ 100 by lia) (by decide), _, rfl, d1, by lia, by lia, _, rfl, _, _, rfl, rfl, ?_⟩
      have h9 := B9 lf _ h8 nlf.symm
      have T9 := T8.trans (B9.tups S8)
      have B59 := B58.trans B9
      refine ⟨_, rfl, _, rfl, _, _, rfl, rfl, ⟨by decide, by decide, by decide⟩, (by show 5 ≤ sizeLine; decide), fun p2 hp2 => ?_⟩
      have s10 := same_new hp2 (.lst (nums [1, 1, 3, 30, 1000000]))
      refine ⟨l, p2, nums [1, 1, 3, 30, 1000000], rfl, S9.keep s10, (S9.ne hp2).symm, upd_same, by show 0 < 5; decide, by show 5 ≤ 100000; decide, fun i3 x3 H11 hx3 S11 B11 => ?_⟩
      obtain ⟨m, mm, rfl⟩ := nums_at hx3
      have mb : ∀ n ∈ ([1, 1, 3, 30, 1000000] : List Nat), 1 ≤ n ∧ n ≤ 1000000 := by decide
      obtain ⟨m1, m2⟩ := mb m mm
      refine ⟨l, m, rfl, by lia, by lia, S11, fun pc H12 _ S12 B12 => ⟨_, _, rfl, rfl, ?_⟩⟩
      have B12' : But l H9 H12 := ((But.of s10).trans B11).trans B12
      have h12 := B12' lf _ h9 nlf.symm
      have T12 := T9.trans (((Tups.of s10).trans (B11.tups (S9.keep s10))).trans (B12.tups S11))
      have na12 := na5.tups T12
      refine ⟨_, rfl, .inl ⟨rfl, _, SqL.of h12⟩, _, rfl, _, rfl, r, _, _, _, rfl, rfl, SqT.of na12.net, rfl, l, N.lanes, rfl, by lia, by lia, S12, fun ln H13 hln S13 B13 => ?_⟩
      refine ⟨_, rfl, _, rfl, (by show 3 ≤ sizeLine; decide), fun t ht => ?_⟩
      have h13 := B13 lf _ h12 nlf.symm
      have T13 := T12.trans (B13.tups S12)
      have s14 := same_new ht (.tup [.int ln, .int ((PySem.NumText.digitsVal (("1" : Str) ++ zs).cps.toList : Nat) + (st : Int)), .int (1 + (pc : Int))])
      have h14 := s14 _ _ h13
      refine ⟨lf, _, _, rfl, rfl, h14, by rw [ql]; exact Nat.lt_of_lt_of_le (show j < 1000 by lia) (by decide), ⟨_, _, _, rfl⟩, (S13.keep s14).upd nlf, (((B59.trans B12').trans B13).trans (But.of s14)).upd flf, (na5.tups T13).tups ((Tups.of s14).trans (Tups.lst h14)), qs ++ [.ref t], upd_same, by rw [List.length_append, ql]; rfl, rs ++ [⟨ln, ((PySem.NumText.digitsVal (("1" : Str) ++ zs).cps.toList : Nat) + (st : Int)), 1 + (pc : Int)⟩], (rn.tups (T13.trans ((Tups.of s14).trans (Tups.lst h14)))).snoc (Tups.lst h14 _ _ upd_same), fun x hx => ?_⟩
      rcases List.mem_append.mp hx with y' | y'
      · exact rg x y'
      · rw [List.mem_singleton.mp y']; exact ⟨by show ln < _; lia, by show (1 : Int) ≤ 1 + (pc : Int); lia⟩
    · refine ⟨_, rfl, _, rfl, _, _, rfl, rfl, ⟨by decide, by decide, by decide⟩, (by show 5 ≤ sizeLine; decide), fun p2 hp2 => ?_⟩
      have s10 := same_new hp2 (.lst (nums [1, 1, 3, 30, 1000000]))
      refine ⟨l, p2, nums [1, 1, 3, 30, 1000000], rfl, S8.keep s10, (S8.ne hp2).symm, upd_same, by show 0 < 5; decide, by show 5 ≤ 100000; decide, fun i3 x3 H11 hx3 S11 B11 => ?_⟩
      obtain ⟨m, mm, rfl⟩ := nums_at hx3
      have mb : ∀ n ∈ ([1, 1, 3, 30, 1000000] : List Nat), 1 ≤ n ∧ n ≤ 1000000 := by decide
      obtain ⟨m1, m2⟩ := mb m mm
      refine ⟨l, m, rfl, by lia, by lia, S11, fun pc H12 _ S12 B12 => ⟨_, _, rfl, rfl, ?_⟩⟩
      have B12' : But l H8 H12 := ((But.of s10).trans B11).trans B12
      have h12 := B12' lf _ h8 nlf.symm
      have T12 := T8.trans (((Tups.of s10).trans (B11.tups (S8.keep s10))).trans (B12.tups S11))
      have na12 := na5.tups T12
      refine ⟨_, rfl, .inl ⟨rfl, _, SqL.of h12⟩, _, rfl, _, rfl, r, _, _, _, rfl, rfl, SqT.of na12.net, rfl, l, N.lanes, rfl, by lia, by lia, S12, fun ln H13 hln S13 B13 => ?_⟩
      refine ⟨_, rfl, _, rfl, (by show 3 ≤ sizeLine; decide), fun t ht => ?_⟩
      have h13 := B13 lf _ h12 nlf.symm
      have T13 := T12.trans (B13.tups S12)
      have s14 := same_new ht (.tup [.int ln, .int (st : Int), .int (1 + (pc : Int))])
      have h14 := s14 _ _ h13
      refine ⟨lf, _, _, rfl, rfl, h14, by rw [ql]; exact Nat.lt_of_lt_of_le (show j < 1000 by lia) (by decide), ⟨_, _, _, rfl⟩, (S13.keep s14).upd nlf, (((B58.trans B12').trans B13).trans (But.of s14)).upd flf, (na5.tups T13).tups ((Tups.of s14).trans (Tups.lst h14)), qs ++ [.ref t], upd_same, by rw [List.length_append, ql]; rfl, rs ++ [⟨ln, (st : Int), 1 + (pc : Int)⟩], (rn.tups (T13.trans ((Tups.of s14).trans (Tups.lst h14)))).snoc (Tups.lst h14 _ _ upd_same), fun x hx => ?_⟩
      rcases List.mem_append.mp hx with y' | y'
      · exact rg x y'
      · rw [List.mem_singleton.mp y']; exact ⟨by show ln < _; lia, by show (1 : Int) ≤ 1 + (pc : Int); lia⟩
  · rintro σ H5 ⟨⟨w5, w6, w7, rfl⟩, S5, B5, na5, qs, h5, ql, rs, rn, rg⟩
    refine ⟨_, rfl, lf, _, rfl, .inl ⟨SqL.of h5, fun p hp => ?_⟩⟩
    have s6 := same_new hp (.tup qs)
    exact k p qs rs _ upd_same (rn.tups (Tups.of s6)) (by have := rn.1; lia) rg (S5.keep s6) (B5.trans (But.of s6))
end
end K97
end
section
set_option maxHeartbeats 4000001
namespace K97
open PySem L2 Own Bn
abbrev sSame : Stmt := top 24
def Eq3 (H : Hp) : Nat → V → V → Prop
  | 0, x, y => ∃ i : Int, x = .int i ∧ y = .int i
  | n + 1, x, y => (∃ i : Int, x = .int i ∧ y = .int i) ∨ ∃ a b xs ys, x = .ref a ∧ y = .ref b ∧ H a = some (.tup xs) ∧ H b = some (.tup ys) ∧ xs.length = ys.length ∧ xs.length ≤ 1000 ∧ ∀ (i : Nat) (u v : V), xs[i]? = some u → ys[i]? = some v → Eq3 H n u v
theorem Eq3.same {H H' : Hp} (s : Same H H') : ∀ {n : Nat} {x y : V}, Eq3 H n x y → Eq3 H' n x y
  | 0, _, _, h => h
  | n + 1, _, _, h => by
    rcases h with h | ⟨a, b, xs, ys, e1, e2, h1, h2, h3, h4, h5⟩
    · exact .inl h
    · exact .inr ⟨a, b, xs, ys, e1, e2, s _ _ h1, s _ _ h2, h3, h4, fun i u v p q => Eq3.same s (h5 i u v p q)⟩
theorem Eq3.int {H : Hp} {n : Nat} (i : Int) : Eq3 H n (.int i) (.int i) := by
  cases n
  · exact ⟨i, rfl, rfl⟩
  · exact .inl ⟨i, rfl, rfl⟩
theorem eq3_ints {H : Hp} {n : Nat} {a b : Addr} {xs : List Int} (h1 : H a = some (.tup (xs.map V.int))) (h2 : H b = some (.tup (xs.map V.int))) (hl : xs.length ≤ 1000) : Eq3 H (n + 1) (.ref a) (.ref b) :=
  .inr ⟨a, b, _, _, rfl, rfl, h1, h2, rfl, by rw [List.length_map]; exact hl, fun i u v hu hv => by
    rw [hu] at hv
    obtain rfl := Option.some.inj hv
    rw [List.getElem?_map] at hu
    cases e : xs[i]? with
    | none => rw [e] at hu; cases hu
    | some z => rw [e] at hu; obtain rfl := Option.some.inj hu; exact Eq3.int z⟩
def spSame (n : Nat) : Sp := fun vs H Q _ => ∃ x y, vs = [x, y] ∧ Eq3 H n x y ∧ ∀ H', Same H H' → Q (.bl true) H'
theorem small_k {n : Nat} (h : n < 1001) : n < sizeLine := Nat.lt_of_lt_of_le h (by decide)
section
variable {P : Program} {w : World} {K : PySem.W.Frag} {mg : Str → Option Value} {base : Heap}
theorem scM : FnScope ["_law_found", "_law_due"] ["_law_found", "_law_due"] (defScope sSame) := ⟨rfl, rfl, rfl, by decide +kernel, rfl, by decide +kernel, by decide +kernel⟩
theorem ok_same1 {f : Addr} {fd : FuncData} (F : Fun K "_law_same" "_law_same" sSame f fd) (G : Mgs mg) (bS : Binds K fd ["_law_found", "_law_due"] []) (mS : mg "_law_same" = some (.ref f)) (n : Nat)
    (GS : FnOk P w K mg base CX0 n f fd ["_law_found", "_law_due"] (fun vs H Q E => ∃ m, n = m + 1 ∧ spSame m vs H Q E)) : FnOk P w K mg base CX0 (n + 1) f fd ["_law_found", "_law_due"] (spSame n) := by
    refine F.ok scM (fun vs H Q E h => ?_) (fun cdv A outer s H vs Q E hr h => ?_)
    · obtain ⟨x, y, rfl, _⟩ := h
      rfl
    obtain ⟨x, y, rfl, he, k⟩ := h
    refine ⟨_, (@pss_cons _ _ _ _ _ (@ps_if _ _ _ _ _ _ _ _ (@pt_val _ _ _ (@pe_callB _ _ _ _ _ _ _ _ _ call_isi (by rfl) G.isi (by rfl) (@pa_cons _ _ _ _ _ (@pv _ 1 _ _ (by rfl) (by first | exact Or.inl rfl | exact Or.inr (Or.inl rfl) | exact Or.inr (Or.inr rfl)) (by decide) (by decide)) (@pa_cons _ _ _ _ _ (@pe_bltn _ _ (.ty "tuple") (.type "tuple") _ (by rfl) G.tuple (by rfl) rfl (by decide) (by decide)) pa_nil (by rfl)) (by rfl)) (by decide) (by decide) (by rfl) (by rfl)) (by intro _; rfl)) (@pss_cons _ _ _ _ _ (@ps_if _ _ _ _ _ _ _ _ (@pw_or _ _ _ _ _ _ _ (@pt_not _ _ _ _ (@pt_val _ _ _ (@pe_callB _ _ _ _ _ _ _ _ _ call_isi (by rfl) G.isi (by rfl) (@pa_cons _ _ _ _ _ (@pv _ 0 _ _ (by rfl) (by first | exact Or.inl rfl | exact Or.inr (Or.inl rfl) | exact Or.inr (Or.inr rfl)) (by decide) (by decide)) (@pa_cons _ _ _ _ _ (@pe_bltn _ _ (.ty "tuple") (.type "tuple") _ (by rfl) G.tuple (by rfl) rfl (by decide) (by decide)) pa_nil (by rfl)) (by rfl)) (by decide) (by decide) (by rfl) (by rfl)) (by intro _; rfl))) (@pw_or1 _ _ _ _ (@pt_cmpR _ _ _ _ _ _ _ _ op_ne (@pe_callB _ _ _ _ _ _ _ _ _ call_len_seq (by rfl) G.len PySem.boot_len (@pa_cons _ _ _ _ _ (@pv _ 0 _ _ (by rfl) (by first | exact Or.inl rfl | exact Or.inr (Or.inl rfl) | exact Or.inr (Or.inr rfl)) (by decide) (by decide)) pa_nil (by rfl)) (by decide) (by decide) (by rfl) (by rfl)) (@pe_callB _ _ _ _ _ _ _ _ _ call_len_seq (by rfl) G.len PySem.boot_len (@pa_cons _ _ _ _ _ (@pv _ 1 _ _ (by rfl) (by first | exact Or.inl rfl | exact Or.inr (Or.inl rfl) | exact Or.inr (Or.inr rfl)) (by decide) (by decide)) pa_nil (by rfl)) (by decide) (by decide) (by rfl) (by rfl)) (nomark _)))).pt (@pss_one _ _ _ (@ps_ret _ _ _ _ pe_bl)) pss_nil) (@pss_one _ _ _ (@ps_ret _ _ _ _ (@pe_callB _ _ _ _ _ _ _ _ _ (call_allB rfl true) (by rfl) G.all (by rfl) (@pa_cons _ _ _ _ _ (@pe_lc _ _ _ _ none _ _ _ (gTup K 2 (gCons (gName 0) (gCons (gName 1) gNil))) _ _ ["_law_one", "_law_other"] [none, none] rfl (@pi_zip _ _ _ _ _ _ _ _ _ false false rfl G.zip (@pa_cons _ _ _ _ _ (@pv _ 0 _ _ (by rfl) (by first | exact Or.inl rfl | exact Or.inr (Or.inl rfl) | exact Or.inr (Or.inr rfl)) (by decide) (by decide)) (@pa_cons _ _ _ _ _ (@pv _ 1 _ _ (by rfl) (by first | exact Or.inl rfl | exact Or.inr (Or.inl rfl) | exact Or.inr (Or.inr rfl)) (by decide) (by decide)) pa_nil (by rfl)) (by rfl)) (by rfl) (by rfl)) (CapOk.of (by kernel_rfl)) (fun _ _ _ _ _ => (@pg_tup _ _ _ _ _ _ rfl (@pgs_cons _ _ _ _ _ (@pg_name _ _ 0 _ (show (["_law_one", "_law_other"] : List Str).Nodup from by decide +kernel) rfl (Or.inl rfl) (Or.inr rfl)) (@pgs_cons _ _ _ _ _ (@pg_name _ _ 1 _ (show (["_law_one", "_law_other"] : List Str).Nodup from by decide +kernel) rfl (Or.inl rfl) (Or.inr rfl)) pgs_nil (by rfl)) (by rfl)) (by rfl) (by rfl))) (fun _ _ _ _ _ => pt_none) (fun _ _ _ _ _ => (@pe_call _ _ _ _ _ _ _ _ _ _ _ _ _ _ _ _ GS hr rfl mS F.kp bS .nil pass0 (@pa_cons _ _ _ _ _ (@pv _ 0 _ _ (by rfl) (by first | exact Or.inl rfl | exact Or.inr (Or.inl rfl) | exact Or.inr (Or.inr rfl)) (by decide) (by decide)) (@pa_cons _ _ _ _ _ (@pv _ 1 _ _ (by rfl) (by first | exact Or.inl rfl | exact Or.inr (Or.inl rfl) | exact Or.inr (Or.inr rfl)) (by decide) (by decide)) pa_nil (by rfl)) (by rfl)) (by decide) (by rfl) (by rfl))) (by intro _; rfl)) pa_nil (by rfl)) (by decide) (by decide) (by rfl) (by rfl))))) pss_nil) (@pss_one _ _ _ (@ps_ret _ _ _ _ (@pe_and _ _ _ _ _ _ _ (@pe_callB _ _ _ _ _ _ _ _ _ call_isi (by rfl) G.isi (by rfl) (@pa_cons _ _ _ _ _ (@pv _ 0 _ _ (by rfl) (by first | exact Or.inl rfl | exact Or.inr (Or.inl rfl) | exact Or.inr (Or.inr rfl)) (by decide) (by decide)) (@pa_cons _ _ _ _ _ (@pe_bltn _ _ (.ty "int") (.type "int") _ (by rfl) G.int (by rfl) rfl (by decide) (by decide)) pa_nil (by rfl)) (by rfl)) (by decide) (by decide) (by rfl) (by rfl)) (@pe_and _ _ _ _ _ _ _ (@pe_not _ _ _ _ (@pe_callB _ _ _ _ _ _ _ _ _ call_isi (by rfl) G.isi (by rfl) (@pa_cons _ _ _ _ _ (@pv _ 0 _ _ (by rfl) (by first | exact Or.inl rfl | exact Or.inr (Or.inl rfl) | exact Or.inr (Or.inr rfl)) (by decide) (by decide)) (@pa_cons _ _ _ _ _ (@pe_bltn _ _ (.ty "bool") (.type "bool") _ (by rfl) G.bool (by rfl) rfl (by decide) (by decide)) pa_nil (by rfl)) (by rfl)) (by decide) (by decide) (by rfl) (by rfl))) (@pe_one _ _ _ _ _ (@pe_cmpR _ _ _ _ _ _ _ _ op_eq (@pv _ 0 _ _ (by rfl) (by first | exact Or.inl rfl | exact Or.inr (Or.inl rfl) | exact Or.inr (Or.inr rfl)) (by decide) (by decide)) (@pv _ 1 _ _ (by rfl) (by first | exact Or.inl rfl | exact Or.inr (Or.inl rfl) | exact Or.inr (Or.inr rfl)) (by decide) (by decide)) (nomark _)))))))), ?_⟩
    have flat : (∃ i : Int, x = .int i ∧ y = .int i) ∨ ∃ m, n = m + 1 ∧ ∃ a b xs ys, x = .ref a ∧ y = .ref b ∧ H a = some (.tup xs) ∧ H b = some (.tup ys) ∧ xs.length = ys.length ∧ xs.length ≤ 1000 ∧ ∀ (i : Nat) (u v : V), xs[i]? = some u → ys[i]? = some v → Eq3 H m u v := by
      cases n with
      | zero => exact .inl he
      | succ m =>
        rcases he with he | he
        · exact .inl he
        · exact .inr ⟨m, rfl, he⟩
    rcases flat with ⟨i, rfl, rfl⟩ | ⟨m, rfl, a, b, xs, ys, rfl, rfl, ha, hb, hl, h1000, hxy⟩
    · refine ⟨_, rfl, _, "tuple", _, false, rfl, .int i, rfl, _, rfl, iteF ?_⟩
      refine ⟨_, rfl, _, "int", _, true, rfl, .int i, rfl, _, rfl, iteT ⟨_, rfl, _, "bool", _, false, rfl, .int i, rfl, _, rfl, _, rfl, iteT ⟨_, rfl, _, rfl, rfl, ?_⟩⟩⟩
      rw [decide_eq_true rfl]; exact k H (Same.refl H)
    · refine ⟨_, rfl, _, "tuple", _, true, rfl, .tup hb, rfl, _, rfl, iteT ?_⟩
      refine ⟨_, rfl, _, "tuple", _, true, rfl, .tup ha, rfl, _, rfl, iteF ?_⟩
      refine ⟨_, rfl, a, _, rfl, .inr (SqT.of ha), _, rfl, b, _, rfl, .inr (SqT.of hb), rfl, _, rfl, ?_⟩
      refine iteNS (by rw [hl]) ?_
      refine ⟨_, rfl, _, rfl, a, b, xs, ys, rfl, SqT.of ha, SqT.of hb, fun l hl0 => ?_⟩
      refine lc_zip (K := K) (b1 := false) (b2 := false) hl (fun i acc σ H' => acc = List.map V.bl (List.replicate i true) ∧ (∃ u v, σ = [u, v]) ∧ Same H H' ∧ H' l = some (.lst acc)) ⟨rfl, ⟨none, none, rfl⟩, same_new hl0 _, upd_same⟩
        (fun i acc σ H' p => ⟨p.2.2.2, SqT.of (p.2.2.1 _ _ ha), SqT.of (p.2.2.1 _ _ hb)⟩) ?_ ?_
      · rintro i acc σ H' u v T hu hv hT ⟨rfl, ⟨p, q, rfl⟩, hS, hL⟩
        have hi : i < xs.length := (List.getElem?_eq_some_iff.mp hu).1
        have sT : Same H (upd H' T (.tup [u, v])) := hS.trans (same_new hT _)
        refine ⟨T, _, rfl, SqT.of upd_same, rfl, _, _, rfl, _, _, rfl, rfl, ?_⟩
        refine ⟨_, rfl, _, rfl, m, rfl, u, v, rfl, (hxy i u v hu hv).same sT, fun H5 s5 => ⟨?_, ?_, nx hi ⟨?_, ⟨_, _, rfl⟩, fun b o e => ?_, upd_same⟩⟩⟩
        · exact s5 _ _ (by rw [upd_ne (ne_of_none hL hT)]; exact hL)
        · rw [List.length_map, List.length_replicate]; exact small_k (by lia)
        · rw [List.replicate_succ', List.map_append]; rfl
        · rw [upd_ne (ne_of_none e hl0)]; exact s5 _ _ (sT b o e)
      · rintro acc σ H' ⟨rfl, _, hS, hL⟩
        refine ⟨l, List.replicate xs.length true, rfl, SqL.of hL, ?_⟩
        have e : (List.replicate xs.length true).all id = true := by
          rw [List.all_eq_true]; intro z hz; rw [List.eq_of_mem_replicate hz]; rfl
        rw [e]; exact k H' hS
theorem ok_same {f : Addr} {fd : FuncData} (F : Fun K "_law_same" "_law_same" sSame f fd) (G : Mgs mg) (bS : Binds K fd ["_law_found", "_law_due"] []) (mS : mg "_law_same" = some (.ref f)) : ∀ n : Nat, FnOk P w K mg base CX0 (n + 1) f fd ["_law_found", "_law_due"] (spSame n)
  | 0 => ok_same1 F G bS mS 0 ⟨fun vs H Q E ⟨m, h, _⟩ => by lia, fun A outer s H args us vs Q E _ _ _ _ ⟨m, h, _⟩ => by lia⟩
  | m + 1 => ok_same1 F G bS mS (m + 1) ((ok_same F G bS mS m).imp fun vs H Q E ⟨m', h, q⟩ => by cases h; exact q)
end
end K97
end
section
set_option maxHeartbeats 4000001
namespace L2
open PySem PySem.Spec PyProof.Rows
abbrev e2 (elt tg iter tg1 iter1 : Expr) (ifs : List Expr) (scope : Scope) (pos : Pos) : Expr := .ListComp elt [⟨tg, iter, [], 0⟩, ⟨tg1, iter1, ifs, 0⟩] scope pos
section
variable {prog : Program} {w : World} {A : Around} {R : Result → Shared → Prop} {s : Shared} {elt tg iter tg1 iter1 : Expr} {scope : Scope} {pos : Pos} {it acc : Value} {env : Env}
end
end L2
end
section
set_option maxHeartbeats 4000001
namespace Own
open PySem PySem.Spec PyProof.Rows
section
variable {prog : Program} {w : World} {A : Around} {E : Value → Shared → Prop} {s : Shared} {z TI TO i1 i2 : Addr} {f1 f2 : List Addr} {n1 n2 k : Nat} {P1 P2 : Nat → Value → Prop} {S1 S2 : Nat → Heap → Prop} {a b : Value}
end
end Own
namespace L2
open PySem PySem.Spec PyProof.Rows Own
end L2
end
section
set_option maxHeartbeats 4000001
namespace L2
open PySem PySem.Spec PyProof.Rows Own
section
variable {X : Cx} {tg : Expr}
end
end L2
end
section
set_option maxHeartbeats 4000001
namespace Bn
open PySem L2 Own
def more (cs xs : List Int) (k : Int) : List Int := (List.range cs.length).map fun i => cs.getD i 0 + k * xs.getD i 0
end Bn
end
section
set_option maxHeartbeats 4000001
namespace Bn
open PySem L2 Own
end Bn
end
section
set_option maxHeartbeats 4000001
namespace L2
open PySem PySem.Spec PyProof.Rows Own
end L2
end
section
set_option maxHeartbeats 4000001
namespace L2
open PySem PySem.Spec PyProof.Rows Own
theorem FnOk.any {P : Program} {w : World} {K : PySem.W.Frag} {mg : Str → Option Value} {base : Heap} {CX : CXT} {k : Nat} {f : Addr} {fd : FuncData} {ps : List Str} {sp : Nat → Sp} (M : Nat) (F : ∀ m, m ≤ M → FnOk P w K mg base CX k f fd ps (sp m)) :
    FnOk P w K mg base CX k f fd ps (fun vs H Q E => ∃ m, m ≤ M ∧ sp m vs H Q E) :=
  ⟨fun vs H Q E ⟨m, hm, q⟩ => (F m hm).len vs H Q E q, fun A outer s H args us vs Q E hr he hb hv ⟨m, hm, q⟩ => (F m hm).run A outer s H args us vs Q E hr he hb hv q⟩
end L2
namespace Bn
open PySem L2 Own
end Bn
end
section
set_option maxHeartbeats 4000001
namespace K97
open PySem L2 Own Bn
abbrev sLaw : Stmt := top 25
def spLaw (K : PySem.W.Frag) : Sp := fun vs H Q _ => ∃ (a : Addr) (ns : List Int), vs = [.ref a] ∧ SqL K H a (ns.map V.int) ∧ ns.length ≤ 63 ∧ ∀ H', Q (.bl true) H'
theorem sqL_but {K : PySem.W.Frag} {H H1 H2 : Hp} {a l : Addr} {xs : List V} (h : SqL K H a xs) (hl : H l = none) (s : Same H H1) (B : But l H1 H2) : SqL K H2 a xs := by
  rcases h with (h | ⟨o, h⟩) | h
  · exact .inl (.inl (B _ _ (s _ _ h) (ne_of_none h hl)))
  · exact .inl (.inr ⟨o, B _ _ (s _ _ h) (ne_of_none h hl)⟩)
  · exact .inr h
def spNetA : Sp := fun vs H Q E => ∃ m, m ≤ 100 ∧ spNetL m vs H Q E
theorem told_same {H : Hp} {p q : Addr} {told : Nat → Option (Nat × Nat × Int)} {n : Nat} (n9 : n ≤ 1000) (h : TldAt H p told n) (g : TldAt H q told n) : Eq3 H 2 (.ref p) (.ref q) := by
  obtain ⟨xs, h1, ⟨h2, h3⟩, h4⟩ := h
  obtain ⟨ys, g1, ⟨g2, g3⟩, _⟩ := g
  refine .inr ⟨p, q, xs, ys, rfl, rfl, h1, g1, by lia, by lia, fun i u v hu hv => ?_⟩
  have il : i < n := by have := (List.getElem?_eq_some_iff.mp hu).1; lia
  have hu' := h3 i u hu
  have hv' := g3 i v hv
  cases e : told i with
  | none => exact absurd e (h4 i il)
  | some y =>
    obtain ⟨a, b, c⟩ := y
    rw [e] at hu' hv'
    obtain ⟨t, rfl, ht⟩ := hu'
    obtain ⟨s, rfl, hs⟩ := hv'
    exact eq3_ints (xs := [(a : Int), (b : Int), c]) ht hs (by show 3 ≤ 1000; decide)
section
variable {P : Program} {w : World} {K : PySem.W.Frag} {mg : Str → Option Value} {base : Heap} {C : Addr}
theorem scW : FnScope ["_law_script", "_law_k", "_law_left_here", "_law_net_here", "_law_turn", "_law_runs_here", "_law_due", "_law_again"] ["_law_script"] (defScope sLaw) := ⟨rfl, rfl, rfl, by decide +kernel, rfl, by decide +kernel, by decide +kernel⟩
theorem ok_law {f fL fN fLa fO fR fA fP fS : Addr} {fd dL dN dLa dO dR dA dP dS : FuncData} (F : Fun K "law" "law" sLaw f fd) (G : Mgs mg) (UL : Use P w K mg base "_law_left" ["_law_script", "_law_k"] 2 (spLeft K) fL dL) (UN : Use P w K mg base "_law_net" ["_law_left_here", "_law_lanes_here", "_law_most"] 3 spNetA fN dN) (ULa : Use P w K mg base "_law_lanes" ["_law_left_here"] 3 spLanes fLa dLa) (UO : Use P w K mg base "_law_of" ["_law_left_here", "_law_some"] 2 spOf fO dO)
    (URs : Use P w K mg base "_law_runs" ["_law_left_here", "_law_net_here", "_law_most"] 3 spRuns fR dR) (UR : Use P w K mg base "_law_ran" ["_law_net_here", "_law_runs_here"] 1 spRan fA dA) (UP : Use P w K mg base "ran" ["net", "runs"] 4 spRan fP dP) (US : Use P w K mg base "_law_same" ["_law_found", "_law_due"] 3 (spSame 2) fS dS) : FnOk P w K mg base CX0 5 f fd ["_law_script"] (spLaw K) := by
  refine F.ok scW (fun vs H Q E h => ?_) (fun cdv A outer s H vs Q E hr h => ?_)
  · obtain ⟨a, ns, rfl, _⟩ := h
    rfl
  obtain ⟨a, ns, rfl, hS, h63, k⟩ := h
  have hr1 : Room 1 _ := hr.mono (by decide)
  have hr2 : Room 2 _ := hr.mono (by decide)
  have hr3 : Room 3 _ := hr.mono (by decide)
  have hr4 : Room 4 _ := hr.mono (by decide)
  refine ⟨_, (@pss_cons _ _ _ _ _ (@ps_for _ _ _ _ _ _ _ _ PassesOwn.never rfl (@pi_range1 _ _ _ _ _ _ rfl G.range (@pa_cons _ _ _ _ _ (@pe_callB _ _ _ _ _ _ _ _ _ (call_max2 rfl) (by rfl) G.max (by rfl) (@pa_cons _ _ _ _ _ pe_int (@pa_cons _ _ _ _ _ (@pe_callB _ _ _ _ _ _ _ _ _ (call_min2 rfl) (by rfl) G.min (by rfl) (@pa_cons _ _ _ _ _ pe_int (@pa_cons _ _ _ _ _ (@pe_callB _ _ _ _ _ _ _ _ _ call_len_seq (by rfl) G.len PySem.boot_len (@pa_cons _ _ _ _ _ (@pv _ 0 _ _ (by rfl) (by first | exact Or.inl rfl | exact Or.inr (Or.inl rfl) | exact Or.inr (Or.inr rfl)) (by decide) (by decide)) pa_nil (by rfl)) (by decide) (by decide) (by rfl) (by rfl)) pa_nil (by rfl)) (by rfl)) (by decide) (by decide) (by rfl) (by rfl)) pa_nil (by rfl)) (by rfl)) (by decide) (by decide) (by rfl) (by rfl)) pa_nil (by rfl)) (by rfl)) (@pg_name _ _ 1 _ scW.nd rfl (Or.inl rfl) (by first | exact .inl rfl | exact .inr rfl | assumption)) (@pss_cons _ _ _ _ _ (@ps_set _ _ 2 _ _ _ _ scW.nd rfl (Or.inl rfl) (@pe_call _ _ _ _ _ _ _ _ _ _ _ _ _ _ _ _ UL.ok hr2 (by rfl) UL.m UL.kp UL.b .nil pass0 (@pa_cons _ _ _ _ _ (@pv _ 0 _ _ (by rfl) (by first | exact Or.inl rfl | exact Or.inr (Or.inl rfl) | exact Or.inr (Or.inr rfl)) (by decide) (by decide)) (@pa_cons _ _ _ _ _ (@pv _ 1 _ _ (by rfl) (by first | exact Or.inl rfl | exact Or.inr (Or.inl rfl) | exact Or.inr (Or.inr rfl)) (by decide) (by decide)) pa_nil (by rfl)) (by rfl)) (by decide) (by rfl) (by rfl)) (by rfl) (by first | exact .inl rfl | exact .inr rfl | assumption)) (@pss_cons _ _ _ _ _ (@ps_set _ _ 3 _ _ _ _ scW.nd rfl (Or.inl rfl) (@pe_call _ _ _ _ _ _ _ _ _ _ _ _ _ _ _ _ UN.ok hr3 (by rfl) UN.m UN.kp UN.b .nil pass0 (@pa_cons _ _ _ _ _ (@pv _ 2 _ _ (by rfl) (by first | exact Or.inl rfl | exact Or.inr (Or.inl rfl) | exact Or.inr (Or.inr rfl)) (by decide) (by decide)) (@pa_cons _ _ _ _ _ (@pe_call _ _ _ _ _ _ _ _ _ _ _ _ _ _ _ _ ULa.ok hr3 (by rfl) ULa.m ULa.kp ULa.b .nil pass0 (@pa_cons _ _ _ _ _ (@pv _ 2 _ _ (by rfl) (by first | exact Or.inl rfl | exact Or.inr (Or.inl rfl) | exact Or.inr (Or.inr rfl)) (by decide) (by decide)) pa_nil (by rfl)) (by decide) (by rfl) (by rfl)) (@pa_cons _ _ _ _ _ (@pe_call _ _ _ _ _ _ _ _ _ _ _ _ _ _ _ _ UO.ok hr2 (by rfl) UO.m UO.kp UO.b .nil pass0 (@pa_cons _ _ _ _ _ (@pv _ 2 _ _ (by rfl) (by first | exact Or.inl rfl | exact Or.inr (Or.inl rfl) | exact Or.inr (Or.inr rfl)) (by decide) (by decide)) (@pa_cons _ _ _ _ _ (@pe_lst _ _ _ _ (@pa_cons _ _ _ _ _ pe_int (@pa_cons _ _ _ _ _ pe_int (@pa_cons _ _ _ _ _ pe_int pa_nil (by rfl)) (by rfl)) (by rfl))) pa_nil (by rfl)) (by rfl)) (by decide) (by rfl) (by rfl)) pa_nil (by rfl)) (by rfl)) (by rfl)) (by decide) (by rfl) (by rfl)) (by rfl) (by first | exact .inl rfl | exact .inr rfl | assumption)) (@pss_one _ _ _ (@ps_for _ _ _ _ _ _ _ _ PassesOwn.never rfl (@pi_range1 _ _ _ _ _ _ rfl G.range (@pa_cons _ _ _ _ _ pe_int pa_nil (by rfl)) (by rfl)) (@pg_name _ _ 4 _ scW.nd rfl (Or.inl rfl) (by first | exact .inl rfl | exact .inr rfl | assumption)) (@pss_cons _ _ _ _ _ (@ps_set _ _ 5 _ _ _ _ scW.nd rfl (Or.inl rfl) (@pe_call _ _ _ _ _ _ _ _ _ _ _ _ _ _ _ _ URs.ok hr3 (by rfl) URs.m URs.kp URs.b .nil pass0 (@pa_cons _ _ _ _ _ (@pv _ 2 _ _ (by rfl) (by first | exact Or.inl rfl | exact Or.inr (Or.inl rfl) | exact Or.inr (Or.inr rfl)) (by decide) (by decide)) (@pa_cons _ _ _ _ _ (@pv _ 3 _ _ (by rfl) (by first | exact Or.inl rfl | exact Or.inr (Or.inl rfl) | exact Or.inr (Or.inr rfl)) (by decide) (by decide)) (@pa_cons _ _ _ _ _ pe_int pa_nil (by rfl)) (by rfl)) (by rfl)) (by decide) (by rfl) (by rfl)) (by rfl) (by first | exact .inl rfl | exact .inr rfl | assumption)) (@pss_cons _ _ _ _ _ (@ps_set _ _ 6 _ _ _ _ scW.nd rfl (Or.inl rfl) (@pe_call _ _ _ _ _ _ _ _ _ _ _ _ _ _ _ _ UR.ok hr1 (by rfl) UR.m UR.kp UR.b .nil pass0 (@pa_cons _ _ _ _ _ (@pv _ 3 _ _ (by rfl) (by first | exact Or.inl rfl | exact Or.inr (Or.inl rfl) | exact Or.inr (Or.inr rfl)) (by decide) (by decide)) (@pa_cons _ _ _ _ _ (@pv _ 5 _ _ (by rfl) (by first | exact Or.inl rfl | exact Or.inr (Or.inl rfl) | exact Or.inr (Or.inr rfl)) (by decide) (by decide)) pa_nil (by rfl)) (by rfl)) (by decide) (by rfl) (by rfl)) (by rfl) (by first | exact .inl rfl | exact .inr rfl | assumption)) (@pss_one _ _ _ (@ps_for _ _ _ _ _ _ _ _ PassesOwn.never rfl (@pi_range1 _ _ _ _ _ _ rfl G.range (@pa_cons _ _ _ _ _ pe_int pa_nil (by rfl)) (by rfl)) (@pg_name _ _ 7 _ scW.nd rfl (Or.inl rfl) (by first | exact .inl rfl | exact .inr rfl | assumption)) (@pss_one _ _ _ (@ps_if _ _ _ _ _ _ _ _ (@pt_not _ _ _ _ (@pt_val _ _ _ (@pe_call _ _ _ _ _ _ _ _ _ _ _ _ _ _ _ _ US.ok hr3 (by rfl) US.m US.kp US.b .nil pass0 (@pa_cons _ _ _ _ _ (@pe_call _ _ _ _ _ _ _ _ _ _ _ _ _ _ _ _ UP.ok hr4 (by rfl) UP.m UP.kp UP.b .nil pass0 (@pa_cons _ _ _ _ _ (@pv _ 3 _ _ (by rfl) (by first | exact Or.inl rfl | exact Or.inr (Or.inl rfl) | exact Or.inr (Or.inr rfl)) (by decide) (by decide)) (@pa_cons _ _ _ _ _ (@pv _ 5 _ _ (by rfl) (by first | exact Or.inl rfl | exact Or.inr (Or.inl rfl) | exact Or.inr (Or.inr rfl)) (by decide) (by decide)) pa_nil (by rfl)) (by rfl)) (by decide) (by rfl) (by rfl)) (@pa_cons _ _ _ _ _ (@pv _ 6 _ _ (by rfl) (by first | exact Or.inl rfl | exact Or.inr (Or.inl rfl) | exact Or.inr (Or.inr rfl)) (by decide) (by decide)) pa_nil (by rfl)) (by rfl)) (by decide) (by rfl) (by rfl)) (by intro _; rfl))) (@pss_one _ _ _ (@ps_ret _ _ _ _ pe_bl)) pss_nil)) (by intro _; rfl))))) (by intro _; rfl))))) (by intro _; rfl)) (@pss_one _ _ _ (@ps_ret _ _ _ _ pe_bl))), ?_⟩
  refine ⟨_, rfl, a, _, rfl, .inl hS, _, _, rfl, _, _, rfl, _, rfl, ?_, ?_, ?_⟩
  · split <;> split <;> lia
  · rw [List.length_map]; split <;> split <;> lia
  refine for_range (lo := 0) (fun i σ H2 => (∃ v1 v2 v3 v4 v5 v6 v7, σ = [some (.ref a), v1, v2, v3, v4, v5, v6, v7]) ∧ SqL K H2 a (ns.map V.int)) ⟨⟨_, _, _, _, _, _, _, rfl⟩, hS⟩ ?_ (fun σ H2 _ => k H2)
  rintro i σ H2 hi ⟨⟨v1, v2, v3, v4, v5, v6, v7, rfl⟩, hS2⟩
  have ib : i < 31 := by
    have : (if (if ((ns.map V.int).length : Int) < 5 then ((ns.map V.int).length : Int) else 5) > 1 then (if ((ns.map V.int).length : Int) < 5 then ((ns.map V.int).length : Int) else 5) else 1) ≤ 30 := by split <;> split <;> lia
    lia
  refine ⟨_, rfl, _, rfl, a, ns, _, rfl, hS2, h63, by lia, by lia, fun l H3 hl s3 S3 => ?_⟩
  refine ⟨_, rfl, _, rfl, l, rfl, S3, fun lanes H4 la1 la16 S4 B4 => ?_⟩
  refine ⟨_, rfl, (by show 3 ≤ sizeLine; decide), fun lq hlq => ?_⟩
  have s4 := same_new hlq (.lst (nums [4, 12, 30]))
  refine ⟨l, lq, nums [4, 12, 30], rfl, S4.keep s4, (S4.ne hlq).symm, upd_same, by show 0 < 3; decide, by show 3 ≤ 100000; decide, fun q x H5 hx S5 B5 => ?_⟩
  obtain ⟨most, mm, rfl⟩ := nums_at hx
  have mb : ∀ n ∈ ([4, 12, 30] : List Nat), n ≤ 100 := by decide
  refine ⟨most, mb most mm, l, lanes, rfl, S5, la1, la16, fun r fr er ps N H6 ok eN fN na6 S6 B6 => ?_⟩
  have B6' : But l H3 H6 := ((B4.trans (But.of s4)).trans B5).trans B6
  refine ⟨3, rfl, by decide, by decide, ?_⟩
  refine for_range (lo := 0) (fun m σ H7 => (∃ v4 v5 v6 v7, σ = [some (.ref a), some (.int (0 + (i : Nat))), some (.ref l), some (.ref r), v4, v5, v6, v7]) ∧ PkAt H7 l ∧ But l H3 H7 ∧ NetAt H7 r fr er ps N) ⟨⟨_, _, _, _, rfl⟩, S6, B6', na6⟩ ?_ ?_
  · rintro m σ H7 hm ⟨⟨v4, v5, v6, v7, rfl⟩, S7, B7, na7⟩
    refine ⟨_, rfl, _, rfl, l, r, fr, er, ps, N, 24, rfl, by decide, S7, ok, na7, fun p qs rs H8 hp8 ra8 r60 rok S8 B8 => ?_⟩
    have na8 := na7.tups (B8.tups S7)
    refine ⟨_, rfl, _, rfl, r, fr, er, ps, N, p, qs, rs, rfl, ok, na8, hp8, ra8, r60, rok, fun p1 a1 H9 s9 ch1 we1 pi1 td1 => ?_⟩
    refine ⟨2, rfl, by decide, by decide, ?_⟩
    refine for_range (lo := 0) (fun q σ H10 => (∃ v7, σ = [some (.ref a), some (.int (0 + (i : Nat))), some (.ref l), some (.ref r), some (.int (0 + (m : Nat))), some (.ref p), some (.ref p1), v7]) ∧ Same H9 H10) ⟨⟨_, rfl⟩, Same.refl _⟩ ?_ ?_
    · rintro q σ H10 hq ⟨⟨v7, rfl⟩, s10⟩
      have u10 := s9.trans s10
      refine ⟨_, rfl, _, rfl, r, fr, er, ps, N, p, qs, rs, rfl, ok, na8.tups (Tups.of u10), u10 _ _ hp8, ra8.tups (Tups.of u10), r60, rok, fun p2 a2 H11 s11 ch2 we2 pi2 td2 => ?_⟩
      have ea := ch1.one ch2 we1 we2
      subst ea
      obtain ⟨xs, x1, x2, x3⟩ := td1
      have t11 := s10.trans s11
      refine ⟨_, rfl, _, _, rfl, told_same (by lia) td2 ⟨xs, t11 _ _ x1, x2.tups (Tups.of t11), x3⟩, fun H12 s12 => ⟨true, rfl, iteF ?_⟩⟩
      exact ⟨⟨_, rfl⟩, (s10.trans s11).trans s12⟩
    · rintro σ H10 ⟨⟨v7, rfl⟩, s10⟩
      have u10 := s9.trans s10
      exact ⟨⟨_, _, _, _, rfl⟩, S8.keep u10, (B7.trans B8).trans (But.of u10), na8.tups (Tups.of u10)⟩
  · rintro σ H7 ⟨⟨v4, v5, v6, v7, rfl⟩, S7, B7, na7⟩
    exact ⟨⟨_, _, _, _, _, _, _, rfl⟩, sqL_but hS2 hl s3 B7⟩
end
end K97
end
namespace K97
open PySem L2 Own Bn
structure FnAt (K : PySem.W.Frag) (x : Str) (st : Stmt) (f : Addr) (fd : FuncData) : Prop where
  ns : PySem.W.nsIn K mainGlobals x = some (some (.ref f))
  fn : Fun K x x st f fd
theorem fn_at {K : PySem.W.Frag} {x : Str} {st : Stmt} {f : Addr} {oc : Value} {od an : Option Addr} {osl : Array (Option Value)} {kV doc pm cdv ct : Value} (a : PySem.W.nsIn K mainGlobals x = some (some (.ref f)))
    (l : K.lookup f = some ⟨oc, od, .func (PySem.W.fnOf x x (defArgs st) (defBody st) (defScope st) .none kV doc pm an cdv ct), osl⟩) (c : PySem.W.codeIn K cdv x = true) (k : PySem.W.keepIn K (.ref f) = true) : FnAt K x st f (PySem.W.fnOf x x (defArgs st) (defBody st) (defScope st) .none kV doc pm an cdv ct) := ⟨a, fun_mk l c k⟩
structure MethAt (K : PySem.W.Frag) (C : Addr) (x q : Str) (st : Stmt) (f : Addr) (fd : FuncData) : Prop where
  mt : Meth K C x f
  fn : Fun K x q st f fd
theorem meth_at {K : PySem.W.Frag} {C : Addr} {x q : Str} {st : Stmt} {f : Addr} {oc : Value} {od an : Option Addr} {osl : Array (Option Value)} {kV doc pm cdv ct : Value} (a : PySem.W.findIn K (.ref C) x = some (some (.ref f))) (i : PySem.W.isFn K (.ref f) = true)
    (l : K.lookup f = some ⟨oc, od, .func (PySem.W.fnOf x q (defArgs st) (defBody st) (defScope st) .none kV doc pm an cdv ct), osl⟩) (c : PySem.W.codeIn K cdv q = true) (k : PySem.W.keepIn K (.ref f) = true) : MethAt K C x q st f (PySem.W.fnOf x q (defArgs st) (defBody st) (defScope st) .none kV doc pm an cdv ct) := ⟨⟨a, i, k⟩, fun_mk (st := st) l c k⟩
theorem us1 {us : List Value} (h : us.length = 1) : ∃ u0, us = [u0] := by
  match us, h with
  | [u0], _ => exact ⟨u0, rfl⟩
theorem us2 {us : List Value} (h : us.length = 2) : ∃ u0 u1, us = [u0, u1] := by
  match us, h with
  | [u0, u1], _ => exact ⟨u0, u1, rfl⟩
theorem us3 {us : List Value} (h : us.length = 3) : ∃ u0 u1 u2, us = [u0, u1, u2] := by
  match us, h with
  | [u0, u1, u2], _ => exact ⟨u0, u1, u2, rfl⟩
set_option maxHeartbeats 4000001 in
theorem all_mk {l : PySem.W.OpenLaw} {w : World} {K : PySem.W.Frag} {h : Heap} {mg : Str → Option Value} {fa f1 f2 f3 f4 f5 f6 f7 f8 f9 f10 f11 f12 f13 f14 f15 f16 : Addr} {d1 d2 d3 d4 d5 d6 d7 d8 d9 d10 d11 d12 d13 d14 d15 d16 : FuncData} (X : K.In h) (G : h.Ns mainGlobals mg) (hfa : mg "law" = some (.ref fa))
    (A1 : FnAt K "_law_cell_at" sCell f1 d1)
    (A2 : FnAt K "_law_left" sLeft f2 d2)
    (A3 : FnAt K "_law_pick" sPick f3 d3)
    (A4 : FnAt K "_law_of" sOf f4 d4)
    (A5 : FnAt K "_law_placed" sPlaced f5 d5)
    (A6 : FnAt K "_law_net" sNet f6 d6)
    (A7 : FnAt K "_law_lanes" sLanes f7 d7)
    (A8 : FnAt K "_law_runs" sRuns f8 d8)
    (A9 : FnAt K "_law_ran" sLRan f9 d9)
    (A10 : FnAt K "_law_same" sSame f10 d10)
    (A11 : FnAt K "ran" sRan f11 d11)
    (A12 : FnAt K "is_whole" sWhole f12 d12)
    (A13 : FnAt K "is_below" sBelow f13 d13)
    (A14 : FnAt K "next_fork" sNext f14 d14)
    (A15 : FnAt K "end_of" sEnd f15 d15)
    (A16 : FnAt K "law" sLaw f16 d16)
    (z1 : PySem.W.nsIn K mainGlobals "len" = some none)
    (z2 : PySem.W.nsIn K mainGlobals "range" = some none)
    (z3 : PySem.W.nsIn K mainGlobals "tuple" = some none)
    (z4 : PySem.W.nsIn K mainGlobals "enumerate" = some none)
    (z5 : PySem.W.nsIn K mainGlobals "abs" = some none)
    (z6 : PySem.W.nsIn K mainGlobals "zip" = some none)
    (z7 : PySem.W.nsIn K mainGlobals "isinstance" = some none)
    (z8 : PySem.W.nsIn K mainGlobals "all" = some none)
    (z9 : PySem.W.nsIn K mainGlobals "sum" = some none)
    (z10 : PySem.W.nsIn K mainGlobals "bool" = some none)
    (z11 : PySem.W.nsIn K mainGlobals "int" = some none)
    (z12 : PySem.W.nsIn K mainGlobals "str" = some none)
    (z13 : PySem.W.nsIn K mainGlobals "max" = some none)
    (z14 : PySem.W.nsIn K mainGlobals "min" = some none)
    (z15 : PySem.W.nsIn K mainGlobals "sorted" = some none)
    (z16 : PySem.W.nsIn K mainGlobals "list" = some none)
    (z17 : PySem.W.nsIn K mainGlobals "dict" = some none)
    {C g1 g2 g3 g4 : Addr} {e1 e2 e3 e4 : FuncData} (aC : PySem.W.nsIn K mainGlobals "Teller" = some (some (.ref C)))
    (B1 : MethAt K C "__init__" "Teller.__init__" sTInit g1 e1)
    (B2 : MethAt K C "start" "Teller.start" sTStart g2 e2)
    (B3 : MethAt K C "step" "Teller.step" sTStep g3 e3)
    (B4 : MethAt K C "number_at" "Teller.number_at" sTNumber g4 e4)
    (pg : PySem.W.plainGet K C Str.empty = true) (hd : PySem.W.hasDictIn K C = true) (po : PySem.W.plainOver K C = true) (sa : PySem.W.findIn K (.ref C) "__setattr__" = some (some (.builtin "object.__setattr__"))) (mk : PySem.W.makesIn K C = true) (kc : PySem.W.keepIn K (.ref C) = true)
    (na0 : PySem.W.findIn K (.ref C) "net" = some none) (na1 : PySem.W.findIn K (.ref C) "settings" = some none) (na2 : PySem.W.findIn K (.ref C) "spots" = some none) (na3 : PySem.W.findIn K (.ref C) "came" = some none) (na4 : PySem.W.findIn K (.ref C) "numbers" = some none)
    (zd : PySem.W.nsIn K cStatics "sys.int_max_str_digits" = some none)
    : ∃ fd : FuncData, (∀ (s : Shared) (v : Value), BindsTo s fd ⟨[v], []⟩ [("_law_script", v)]) ∧ ∀ base : Heap, K.In base → base.Ns mainGlobals mg → FnOk l.prog w K mg base CX0 5 fa fd ["_law_script"] (spLaw K) := by
  have e := hfa.symm.trans (PySem.W.mg_of X G A16.ns)
  cases e
  have M : Mgs mg := ⟨PySem.W.mg_none_of X G z1, PySem.W.mg_none_of X G z2, PySem.W.mg_none_of X G z3, PySem.W.mg_none_of X G z4, PySem.W.mg_none_of X G z5, PySem.W.mg_none_of X G z6, PySem.W.mg_none_of X G z7, PySem.W.mg_none_of X G z8, PySem.W.mg_none_of X G z9, PySem.W.mg_none_of X G z10, PySem.W.mg_none_of X G z11, PySem.W.mg_none_of X G z12, PySem.W.mg_none_of X G z13, PySem.W.mg_none_of X G z14, PySem.W.mg_none_of X G z15, PySem.W.mg_none_of X G z16⟩
  have M2 : MgD mg := ⟨PySem.W.mg_none_of X G z17⟩
  have b1 := A1.fn.binds (ps := ["_law_script", "_law_k"]) fun _ _ _ _ _ _ us hl => by obtain ⟨u0, u1, rfl⟩ := us2 hl; rfl
  have m1 := PySem.W.mg_of X G A1.ns
  have b2 := A2.fn.binds (ps := ["_law_script", "_law_k"]) fun _ _ _ _ _ _ us hl => by obtain ⟨u0, u1, rfl⟩ := us2 hl; rfl
  have m2 := PySem.W.mg_of X G A2.ns
  have b3 := A3.fn.binds (ps := ["_law_left_here", "_law_many"]) fun _ _ _ _ _ _ us hl => by obtain ⟨u0, u1, rfl⟩ := us2 hl; rfl
  have m3 := PySem.W.mg_of X G A3.ns
  have b4 := A4.fn.binds (ps := ["_law_left_here", "_law_some"]) fun _ _ _ _ _ _ us hl => by obtain ⟨u0, u1, rfl⟩ := us2 hl; rfl
  have m4 := PySem.W.mg_of X G A4.ns
  have b5 := A5.fn.binds (ps := ["_law_left_here", "_law_some"]) fun _ _ _ _ _ _ us hl => by obtain ⟨u0, u1, rfl⟩ := us2 hl; rfl
  have m5 := PySem.W.mg_of X G A5.ns
  have b6 := A6.fn.binds (ps := ["_law_left_here", "_law_lanes_here", "_law_most"]) fun _ _ _ _ _ _ us hl => by obtain ⟨u0, u1, u2, rfl⟩ := us3 hl; rfl
  have m6 := PySem.W.mg_of X G A6.ns
  have b7 := A7.fn.binds (ps := ["_law_left_here"]) fun _ _ _ _ _ _ us hl => by obtain ⟨u0, rfl⟩ := us1 hl; rfl
  have m7 := PySem.W.mg_of X G A7.ns
  have b8 := A8.fn.binds (ps := ["_law_left_here", "_law_net_here", "_law_most"]) fun _ _ _ _ _ _ us hl => by obtain ⟨u0, u1, u2, rfl⟩ := us3 hl; rfl
  have m8 := PySem.W.mg_of X G A8.ns
  have b9 := A9.fn.binds (ps := ["_law_net_here", "_law_runs_here"]) fun _ _ _ _ _ _ us hl => by obtain ⟨u0, u1, rfl⟩ := us2 hl; rfl
  have m9 := PySem.W.mg_of X G A9.ns
  have b10 := A10.fn.binds (ps := ["_law_found", "_law_due"]) fun _ _ _ _ _ _ us hl => by obtain ⟨u0, u1, rfl⟩ := us2 hl; rfl
  have m10 := PySem.W.mg_of X G A10.ns
  have b11 := A11.fn.binds (ps := ["net", "runs"]) fun _ _ _ _ _ _ us hl => by obtain ⟨u0, u1, rfl⟩ := us2 hl; rfl
  have m11 := PySem.W.mg_of X G A11.ns
  have b12 := A12.fn.binds (ps := ["thing"]) fun _ _ _ _ _ _ us hl => by obtain ⟨u0, rfl⟩ := us1 hl; rfl
  have m12 := PySem.W.mg_of X G A12.ns
  have b13 := A13.fn.binds (ps := ["thing", "bound"]) fun _ _ _ _ _ _ us hl => by obtain ⟨u0, u1, rfl⟩ := us2 hl; rfl
  have m13 := PySem.W.mg_of X G A13.ns
  have b14 := A14.fn.binds (ps := ["net", "lane", "number"]) fun _ _ _ _ _ _ us hl => by obtain ⟨u0, u1, u2, rfl⟩ := us3 hl; rfl
  have m14 := PySem.W.mg_of X G A14.ns
  have b15 := A15.fn.binds (ps := ["net", "lane"]) fun _ _ _ _ _ _ us hl => by obtain ⟨u0, u1, rfl⟩ := us2 hl; rfl
  have m15 := PySem.W.mg_of X G A15.ns
  have T : Txt K mg C := ⟨⟨pg, hd, po, sa⟩, na0, na1, na2, na3, na4, PySem.W.mg_of X G aC⟩
  have MT : Mk K C g1 := ⟨mk, B1.mt.at_, B1.mt.fn, kc⟩
  have q1 := B1.fn.binds (ps := ["self", "net"]) fun _ _ _ _ _ _ us hl => by obtain ⟨u0, u1, rfl⟩ := us2 hl; rfl
  have q2 := B2.fn.binds (ps := ["self", "lane"]) fun _ _ _ _ _ _ us hl => by obtain ⟨u0, u1, rfl⟩ := us2 hl; rfl
  have q3 := B3.fn.binds (ps := ["self", "ball"]) fun _ _ _ _ _ _ us hl => by obtain ⟨u0, u1, rfl⟩ := us2 hl; rfl
  have q4 := B4.fn.binds (ps := ["self", "end"]) fun _ _ _ _ _ _ us hl => by obtain ⟨u0, u1, rfl⟩ := us2 hl; rfl
  obtain ⟨oc, od, kV, doc, pm, an, cdv, ct, osl, ed, _, _⟩ := id A16.fn.ex
  refine ⟨d16, fun s v => by rw [ed]; exact .of_eq rfl, fun base _ _ => ?_⟩
  have U1 : Use l.prog w K mg base "_law_cell_at" ["_law_script", "_law_k"] 1 (spCell K) f1 d1 := ⟨ok_cell A1.fn M, b1, A1.fn.kp, m1⟩
  have U2 : Use l.prog w K mg base "_law_left" ["_law_script", "_law_k"] 2 (spLeft K) f2 d2 := ⟨ok_left A2.fn M zd U1, b2, A2.fn.kp, m2⟩
  have U3 : Use l.prog w K mg base "_law_pick" ["_law_left_here", "_law_many"] 1 spPick f3 d3 := ⟨ok_pick A3.fn, b3, A3.fn.kp, m3⟩
  have U4 : Use l.prog w K mg base "_law_of" ["_law_left_here", "_law_some"] 2 spOf f4 d4 := ⟨ok_of A4.fn M U3, b4, A4.fn.kp, m4⟩
  have U5 : Use l.prog w K mg base "_law_placed" ["_law_left_here", "_law_some"] 2 spPlaced f5 d5 := ⟨ok_placed A5.fn M U3, b5, A5.fn.kp, m5⟩
  have U6 : Use l.prog w K mg base "_law_net" ["_law_left_here", "_law_lanes_here", "_law_most"] 3 spNetA f6 d6 := ⟨FnOk.any 100 fun m hm => ok_net m hm A6.fn M U3 U4 U5, b6, A6.fn.kp, m6⟩
  have U7 : Use l.prog w K mg base "_law_lanes" ["_law_left_here"] 3 spLanes f7 d7 := ⟨ok_lanes A7.fn M U4, b7, A7.fn.kp, m7⟩
  have U12 : Use l.prog w K mg base "is_whole" ["thing"] 1 (spWhole K) f12 d12 := ⟨ok_whole A12.fn M, b12, A12.fn.kp, m12⟩
  have U13 : Use l.prog w K mg base "is_below" ["thing", "bound"] 2 (spBelow K) f13 d13 := ⟨ok_below A13.fn M U12, b13, A13.fn.kp, m13⟩
  have U14 : Use l.prog w K mg base "next_fork" ["net", "lane", "number"] 1 spNext f14 d14 := ⟨ok_next A14.fn M, b14, A14.fn.kp, m14⟩
  have U15 : Use l.prog w K mg base "end_of" ["net", "lane"] 1 spEnd f15 d15 := ⟨ok_end A15.fn, b15, A15.fn.kp, m15⟩
  have W1 : UseM l.prog w K mg base C "__init__" ["self", "net"] 1 (spTInit C) g1 e1 := ⟨ok_tinit B1.fn M T, q1, B1.mt⟩
  have W2 : UseM l.prog w K mg base C "start" ["self", "lane"] 3 (spTStart C) g2 e2 := ⟨ok_tstart B2.fn M T U13 U14, q2, B2.mt⟩
  have W4 : UseM l.prog w K mg base C "number_at" ["self", "end"] 1 (spTNumber C) g4 e4 := ⟨ok_tnumber B4.fn M T, q4, B4.mt⟩
  have W3 : UseM l.prog w K mg base C "step" ["self", "ball"] 3 (spTStep C) g3 e3 := ⟨ok_tstep B3.fn M T U13 U14 U15 W4, q3, B3.mt⟩
  have U8 : Use l.prog w K mg base "_law_runs" ["_law_left_here", "_law_net_here", "_law_most"] 3 spRuns f8 d8 := ⟨ok_runs A8.fn M U3 U4, b8, A8.fn.kp, m8⟩
  have U11 : Use l.prog w K mg base "ran" ["net", "runs"] 4 spRan f11 d11 := ⟨ok_ran A11.fn M T MT W1 W2 W3, b11, A11.fn.kp, m11⟩
  have U9 : Use l.prog w K mg base "_law_ran" ["_law_net_here", "_law_runs_here"] 1 spRan f9 d9 := ⟨ok_lran A9.fn M M2, b9, A9.fn.kp, m9⟩
  have U10 : Use l.prog w K mg base "_law_same" ["_law_found", "_law_due"] 3 (spSame 2) f10 d10 := ⟨ok_same A10.fn M b10 m10 2, b10, A10.fn.kp, m10⟩
  exact ok_law A16.fn M U2 U6 U7 U4 U8 U9 U11 U10
theorem walk {l : PySem.W.OpenLaw} {q : Program} {loose : List Str} {XP : (Str → Option Value) → Heap → Prop} {YP : World → Heap → Prop} {d : DefRec} {K : Params → PySem.W.Frag} (hn : l.most = some 63) (hdf : d.params.defaults = [])
    (hY : ∀ (w : World) (h : Heap), YP w h → (K w.params).In h)
    (F : ∀ (w : World) (mg : Str → Option Value) (fa : Addr) (h : Heap), (K w.params).In h → h.Ns mainGlobals mg → mg d.name = some (.ref fa) →
      ∃ fd : FuncData, (∀ (s : Shared) (u : Value), BindsTo s fd ⟨[u], []⟩ [("_law_script", u)]) ∧ ∀ base : Heap, (K w.params).In base → base.Ns mainGlobals mg → FnOk l.prog w (K w.params) mg base CX0 5 fa fd ["_law_script"] (spLaw (K w.params))) :
    PySem.W.WalkO q loose XP YP l.row.toRowW d [] (fun f vs => PySem.call f vs) :=
  L2.walk_ofK (n := 63) (k := 5) (x := "_law_script") (CX := CX0) (sp := spLaw) hn (by decide) hdf ⟨rfl, by decide, by decide, rfl⟩ hY F (fun _ _ a ns hl _ hS => ⟨a, ns, rfl, hS, hl, fun _ => rfl⟩) fun _ _ _ _ z => z
end K97
open PySem PySem.W PyProof.Rows
set_option maxRecDepth 100000 in
set_option maxHeartbeats 0 in
theorem PySem.Challenge.cw_stairlanes_k97_balls_at_their_paces_holds : PySem.Challenge.rw_stairlanes_k97_balls_at_their_paces.Holds := by
  w_on; o_law; k_head; (case hw => w_witness2)
  k_fill
  refine K97.walk (l := PySem.Challenge.rw_stairlanes_k97_balls_at_their_paces) rfl rfl (fun w h Y => PySem.W.kIn_of Y) ?F
  case F =>
    intro w mg fa h KX G hmg
    refine' K97.all_mk KX G hmg (K97.fn_at ?a1 ?l1 ?c1 ?k1) (K97.fn_at ?a2 ?l2 ?c2 ?k2) (K97.fn_at ?a3 ?l3 ?c3 ?k3) (K97.fn_at ?a4 ?l4 ?c4 ?k4) (K97.fn_at ?a5 ?l5 ?c5 ?k5) (K97.fn_at ?a6 ?l6 ?c6 ?k6) (K97.fn_at ?a7 ?l7 ?c7 ?k7) (K97.fn_at ?a8 ?l8 ?c8 ?k8) (K97.fn_at ?a9 ?l9 ?c9 ?k9) (K97.fn_at ?a10 ?l10 ?c10 ?k10) (K97.fn_at ?a11 ?l11 ?c11 ?k11) (K97.fn_at ?a12 ?l12 ?c12 ?k12) (K97.fn_at ?a13 ?l13 ?c13 ?k13) (K97.fn_at ?a14 ?l14 ?c14 ?k14) (K97.fn_at ?a15 ?l15 ?c15 ?k15) (K97.fn_at ?a16 ?l16 ?c16 ?k16) ?z1 ?z2 ?z3 ?z4 ?z5 ?z6 ?z7 ?z8 ?z9 ?z10 ?z11 ?z12 ?z13 ?z14 ?z15 ?z16 ?z17 ?aC (K97.meth_at ?a_1 ?i_1 ?l_1 ?c_1 ?k_1) (K97.meth_at ?a_2 ?i_2 ?l_2 ?c_2 ?k_2) (K97.meth_at ?a_3 ?i_3 ?l_3 ?c_3 ?k_3) (K97.meth_at ?a_4 ?i_4 ?l_4 ?c_4 ?k_4) ?pg ?hd ?po ?sa ?mk ?kc ?na0 ?na1 ?na2 ?na3 ?na4 ?zd
    (case a1 => k_is); (case l1 => k_is); (case c1 => k_is); (case k1 => k_is)
    (case a2 => k_is); (case l2 => k_is); (case c2 => k_is); (case k2 => k_is)
    (case a3 => k_is); (case l3 => k_is); (case c3 => k_is); (case k3 => k_is)
    (case a4 => k_is); (case l4 => k_is); (case c4 => k_is); (case k4 => k_is)
    (case a5 => k_is); (case l5 => k_is); (case c5 => k_is); (case k5 => k_is)
    (case a6 => k_is); (case l6 => k_is); (case c6 => k_is); (case k6 => k_is)
    (case a7 => k_is); (case l7 => k_is); (case c7 => k_is); (case k7 => k_is)
    (case a8 => k_is); (case l8 => k_is); (case c8 => k_is); (case k8 => k_is)
    (case a9 => k_is); (case l9 => k_is); (case c9 => k_is); (case k9 => k_is)
    (case a10 => k_is); (case l10 => k_is); (case c10 => k_is); (case k10 => k_is)
    (case a11 => k_is); (case l11 => k_is); (case c11 => k_is); (case k11 => k_is)
    (case a12 => k_is); (case l12 => k_is); (case c12 => k_is); (case k12 => k_is)
    (case a13 => k_is); (case l13 => k_is); (case c13 => k_is); (case k13 => k_is)
    (case a14 => k_is); (case l14 => k_is); (case c14 => k_is); (case k14 => k_is)
    (case a15 => k_is); (case l15 => k_is); (case c15 => k_is); (case k15 => k_is)
    (case a16 => k_is); (case l16 => k_is); (case c16 => k_is); (case k16 => k_is)
    (case z1 => k_is)
    (case z2 => k_is)
    (case z3 => k_is)
    (case z4 => k_is)
    (case z5 => k_is)
    (case z6 => k_is)
    (case z7 => k_is)
    (case z8 => k_is)
    (case z9 => k_is)
    (case z10 => k_is)
    (case z11 => k_is)
    (case z12 => k_is)
    (case z13 => k_is)
    (case z14 => k_is)
    (case z15 => k_is)
    (case z16 => k_is)
    (case z17 => k_is)
    (case aC => k_is)
    (case a_1 => k_is); (case i_1 => k_is); (case l_1 => k_is); (case c_1 => k_is); (case k_1 => k_is)
    (case a_2 => k_is); (case i_2 => k_is); (case l_2 => k_is); (case c_2 => k_is); (case k_2 => k_is)
    (case a_3 => k_is); (case i_3 => k_is); (case l_3 => k_is); (case c_3 => k_is); (case k_3 => k_is)
    (case a_4 => k_is); (case i_4 => k_is); (case l_4 => k_is); (case c_4 => k_is); (case k_4 => k_is)
    (case pg => k_is); (case hd => k_is); (case po => k_is); (case sa => k_is); (case mk => k_is); (case kc => k_is)
    (case na0 => k_is)
    (case na1 => k_is)
    (case na2 => k_is)
    (case na3 => k_is)
    (case na4 => k_is)
    (case zd => k_is)
