import PyProof.Rows.All
import Wide.All
import OpenK.AllK
import Wide.FinOn
import Lean
import PyProof.EqAt
import PyProof.EqKinds
import PyProof.TupleCall
import PyProof.NeKinds
import KE.KIntText
import PyProof.TupleOfStr
import PyProof.ReprRoads
import PySem.Challenge.RW_stairlanes_k01_nets_of_anything
set_option Elab.async false
set_option linter.all false
set_option maxRecDepth 100000
/-! THE HAND LAYER, for ints, bools, texts, own classes, LISTS and tuples (index, slices, in, append, pop ..), calls, loops. Paste it whole ahead of your own text; what your proof does not reach may be deleted. -/
namespace L2
open PySem PySem.Spec PyProof.Rows

/-- a key: an int or a str -/
abbrev Key := Sum Int Str
def keyIs : Key → Value → Bool
  | .inl k, v => Value.isInt k v
  | .inr x, v => Value.isStrOf x v
def keyH (w : World) : Key → Int
  | .inl k => hashInt k
  | .inr x => hashStr w x
theorem keyIs_shape : ∀ {k : Key} {v : Value}, keyIs k v = true → (∃ i t, k = Sum.inl i ∧ v = Value.int i t) ∨ (∃ x t, k = Sum.inr x ∧ v = Value.str x t)
  | .inl i, v, h => by
    obtain ⟨t, e⟩ := Value.isInt_shape (k := i) (v := v) h
    exact .inl ⟨i, t, rfl, e⟩
  | .inr x, v, h => by
    obtain ⟨t, e⟩ := Value.isStrOf_shape (x := x) (v := v) h
    exact .inr ⟨x, t, rfl, e⟩
theorem keyIs_int (i : Int) (t : Tok) : keyIs (.inl i) (.int i t) = true := by simp [keyIs, Value.isInt]
theorem keyIs_str (x : Str) (t : Tok) : keyIs (.inr x) (.str x t) = true := by simp [keyIs, Value.isStrOf]
theorem key_ll (a b : Int) : decide ((Sum.inl a : Key) = Sum.inl b) = (a == b) := by
  by_cases e : a = b
  · subst e; simp
  · have h : ¬ (Sum.inl a : Key) = Sum.inl b := fun q => e (Sum.inl.inj q)
    rw [decide_eq_false h]
    exact (beq_eq_false_iff_ne.mpr e).symm
theorem key_rr (a b : Str) : decide ((Sum.inr a : Key) = Sum.inr b) = decide (a = b) := by
  by_cases e : a = b
  · subst e; simp
  · have h : ¬ (Sum.inr a : Key) = Sum.inr b := fun q => e (Sum.inr.inj q)
    rw [decide_eq_false h, decide_eq_false e]
theorem key_lr (a : Int) (b : Str) : decide ((Sum.inl a : Key) = Sum.inr b) = false := decide_eq_false (fun q => nomatch q)
theorem key_rl (a : Str) (b : Int) : decide ((Sum.inr a : Key) = Sum.inl b) = false := decide_eq_false (fun q => nomatch q)

def mixKind (prog : Program) (w : World) : PySem.KeyKind prog w Key where
  is := keyIs
  hash := keyH w
  inj := fun v a b ha hb => by
    rcases keyIs_shape ha with ⟨i, t, rfl, rfl⟩ | ⟨x, t, rfl, rfl⟩
    · rcases keyIs_shape hb with ⟨j, u, rfl, e⟩ | ⟨y, u, rfl, e⟩
      · injection e with e1 _; rw [e1]
      · exact nomatch e
    · rcases keyIs_shape hb with ⟨j, u, rfl, e⟩ | ⟨y, u, rfl, e⟩
      · exact nomatch e
      · injection e with e1 _; rw [e1]
  byValue := fun k v h => by
    rcases keyIs_shape h with ⟨i, t, rfl, rfl⟩ | ⟨x, t, rfl, rfl⟩ <;> rfl
  pyHash := fun hv h => by
    rcases keyIs_shape hv with ⟨i, t, rfl, rfl⟩ | ⟨x, t, rfl, rfl⟩
    · exact wpAny_pyHash_int h
    · exact wpAny_pyHash_str h
  eqBool := fun hu hv h => by
    rcases keyIs_shape hu with ⟨i, t, rfl, rfl⟩ | ⟨x, t, rfl, rfl⟩
    · rcases keyIs_shape hv with ⟨j, u, rfl, rfl⟩ | ⟨y, u, rfl, rfl⟩
      · rw [key_ll] at h; exact wpAny_eqBool_int h
      · rw [key_lr] at h; exact SeqAt.EqAt.int_str i t y u _ _ _ _ h
    · rcases keyIs_shape hv with ⟨j, u, rfl, rfl⟩ | ⟨y, u, rfl, rfl⟩
      · rw [key_rl] at h; exact SeqAt.EqAt.str_int x t j u _ _ _ _ h
      · rw [key_rr] at h; exact wpAny_eqBool_str h
  «strs» := fun k x t v h => by
    rcases keyIs_shape h with ⟨i, u, rfl, e⟩ | ⟨y, u, rfl, e⟩
    · exact nomatch e
    · injection e with e1 _
      subst e1
      cases v <;> rfl

theorem mixKind_is (prog : Program) (w : World) (k : Key) (v : Value) : (mixKind prog w).is k v = keyIs k v := rfl
theorem mixKind_int (prog : Program) (w : World) (i : Int) (t : Tok) : (mixKind prog w).is (.inl i) (.int i t) = true := keyIs_int i t
theorem mixKind_str (prog : Program) (w : World) (x : Str) (t : Tok) : (mixKind prog w).is (.inr x) (.str x t) = true := keyIs_str x t
end L2

namespace L2
open PySem PySem.Spec PyProof.Rows

/-- a value, without the heap -/
inductive V where
  | non | bl (b : Bool) | int (i : Int) | str (x : Str) | byt (b : Array UInt8) | flt (b : UInt64) | ref (a : Addr) | ty (n : String)
  deriving DecidableEq

def RelV : V → Value → Prop
  | .non, u => u = Value.none
  | .bl b, u => u = Value.bool b
  | .int i, u => ∃ t, u = Value.int i t
  | .str x, u => ∃ t, u = Value.str x t
  | .byt b, u => ∃ t, u = Value.bytes b t
  | .flt b, u => ∃ t, u = Value.float b t
  | .ref a, u => u = Value.ref a
  | .ty n, u => u = Value.type n

abbrev Vals : List V → List Value → Prop := Paired RelV
theorem Vals.length {xs : List V} {us : List Value} (r : Vals xs us) : xs.length = us.length := Paired.length r
theorem Vals.get : ∀ {xs : List V} {us : List Value} {i : Nat} {x : V}, Vals xs us → xs[i]? = some x → ∃ u, us[i]? = some u ∧ RelV x u
  | _, _, _, _, .nil, e => by simp at e
  | _, _, 0, _, .cons r _, e => by simp at e; subst e; exact ⟨_, rfl, r⟩
  | _, _, i + 1, x, .cons _ t, e => by
    obtain ⟨u, h1, h2⟩ := Vals.get (i := i) (x := x) t (by simpa using e)
    exact ⟨u, by simpa using h1, h2⟩
theorem Vals.set {x : V} {u : Value} (r : RelV x u) : ∀ {xs : List V} {us : List Value} (i : Nat), Vals xs us → Vals (xs.set i x) (us.set i u)
  | _, _, _, .nil => .nil
  | _, _, 0, .cons _ t => .cons r t
  | _, _, i + 1, .cons q t => .cons q (Vals.set r i t)
theorem Vals.append : ∀ {xs ys : List V} {us ws : List Value}, Vals xs us → Vals ys ws → Vals (xs ++ ys) (us ++ ws)
  | _, _, _, _, .nil, s => s
  | _, _, _, _, .cons r t, s => .cons r (Vals.append t s)
theorem Vals.take : ∀ {xs : List V} {us : List Value} (n : Nat), Vals xs us → Vals (xs.take n) (us.take n)
  | _, _, 0, _ => .nil
  | _, _, _ + 1, .nil => .nil
  | _, _, n + 1, .cons r t => .cons r (Vals.take n t)
theorem Vals.drop : ∀ {xs : List V} {us : List Value} (n : Nat), Vals xs us → Vals (xs.drop n) (us.drop n)
  | _, _, 0, r => r
  | _, _, _ + 1, .nil => .nil
  | _, _, n + 1, .cons _ t => Vals.drop n t
theorem Vals.none_of : ∀ {xs : List V} {us : List Value} {i : Nat}, Vals xs us → xs[i]? = none → us[i]? = none := fun {xs us i} r e => by
  have h1 := r.length
  have h2 : xs.length ≤ i := List.getElem?_eq_none_iff.mp e
  exact List.getElem?_eq_none_iff.mpr (by omega)

def RelO : Option V → Option Value → Prop
  | some v, some u => RelV v u
  | none, none => True
  | _, _ => False
def KV {κ : Type} : List (κ × V) → List (κ × Value) → Prop := Paired fun (p : κ × V) (q : κ × Value) => p.1 = q.1 ∧ RelV p.2 q.2

/-- a key of a dict (00_mix): an int or a text -/
def kV : Key → V
  | .inl i => .int i
  | .inr x => .str x

/-- what stands at a tracked address -/
inductive HO where
  /-- a list -/
  | lst (xs : List V)
  /-- a tuple (never changes) -/
  | tup (xs : List V)
  /-- a dict whose keys are ints and texts; one whose keys are tuples of ints and texts (the empty one is both) -/
  | dK (kvs : List (Key × V)) | dT (kvs : List (List Key × V))
  /-- a set of ints: its members, its size -/
  | set (S : Int → Bool) (n : Nat)
  /-- an instance of the class at C, its dict at dx, its attributes -/
  | ins (C dx : Addr) (fs : List (Str × V))
  /-- the dict of the instance at x -/
  | own (x : Addr)
  /-- the dict of an exception -/
  | xd (fs : List (Str × V))
  /-- a bound method, f of x -/
  | met (f x : Addr)
  /-- a range object lo, lo + 1, .. below hi -/
  | rng (lo hi : Int)
  /-- a thing that is known to the object (the script; a dict while a loop walks it): read, never written while it is so -/
  | frz (o : Obj) (u : HO)
  /-- a code object's table -/
  | tbl (ps : Array Value)
  /-- any other thing, by what is true of its one object (a def of one's own: SetO a S n := HO.ext fun h => ..) -/
  | ext (φ : Heap → Prop)

abbrev Hp := Addr → Option HO
def upd (H : Hp) (a : Addr) (o : HO) : Hp := fun b => if b = a then some o else H b
theorem upd_same {H : Hp} {a : Addr} {o : HO} : upd H a o a = some o := by unfold upd; rw [if_pos rfl]
theorem upd_ne {H : Hp} {a b : Addr} {o : HO} (h : b ≠ a) : upd H a o b = H b := by unfold upd; rw [if_neg h]
theorem upd_upd {H : Hp} {a : Addr} {o u : HO} : upd (upd H a o) a u = upd H a u := by
  funext b; unfold upd; split <;> rfl
/-- two objects of different content stand apart -/
theorem ne_of {H : Hp} {a b : Addr} {o u : HO} (h : H a = some o) (h' : H b = some u) (d : o ≠ u) : a ≠ b := by
  intro e; subst e; rw [h] at h'; exact d (Option.some.inj h')
theorem ne_of_none {H : Hp} {a b : Addr} {o : HO} (h : H a = some o) (h' : H b = none) : a ≠ b := by
  intro e; subst e; rw [h] at h'; cases h'

/-- a tuple whose object has no dict -/
def TupX (h : Heap) (a : Addr) (items : Array Value) : Prop := ∃ o, h.get? a = some o ∧ o.cls = .type "tuple" ∧ ∃ n, o.data = .seq items n ∧ o.dict = none
theorem TupX.tup {h : Heap} {a : Addr} {items : Array Value} (x : TupX h a items) : IsTup h a items := let ⟨o, e, c, n, d, _⟩ := x; ⟨o, e, c, n, d⟩
theorem TupX.new (h : Heap) (items : Array Value) : TupX (h.push { cls := .type "tuple", data := .seq items }) h.objs.size items := ⟨_, Heap.get?_push_size _ rfl, rfl, 0, rfl, rfl⟩
section
variable (P : Program) (w : World)
def ObjOk (H : Hp) (h : Heap) (a : Addr) : HO → Prop
  | .lst xs => xs.length ≤ sizeLine ∧ ∃ (its : List Value) (n : Nat), Vals xs its ∧ h.get? a = some { cls := .type "list", data := .seq its.toArray n }
  | .tup xs => xs.length ≤ sizeLine ∧ ∃ its : List Value, Vals xs its ∧ TupX h a its.toArray
  | .dK kvs => kvs.length ≤ sizeLine ∧ (a == sysModules) = false ∧ ∃ vs, KV kvs vs ∧ h.DictOf (mixKind P w) a vs
  | .dT kvs => kvs.length ≤ sizeLine ∧ (a == sysModules) = false ∧ ∃ xs : List (List Key × Addr × Value),
      Paired (fun (p : List Key × V) (q : List Key × Addr × Value) => p.1 = q.1 ∧ H q.2.1 = some (.tup (p.1.map kV)) ∧ RelV p.2 q.2.2) kvs xs ∧
      ∃ o es ep, h.get? a = some o ∧ o.ExactDict ∧ o.data = .dict es ep ∧ es.toList = xs.map (entryOfKey (tupleKind (mixKind P w))) ∧ (xs.map (·.1)).Nodup
  | .set S n => h.SetOf (intKind P w) a S n
  | .ins C dx fs => H dx = some (.own a) ∧ fs.length ≤ 1000 ∧ dx ≠ a ∧ h.get? a = some (PySem.W.instObj C dx) ∧
      ∃ mA, h.Ns1 dx mA ∧ (∀ f, RelO (fs.lookup f) (mA f)) ∧ PySem.Within mA (fs.map (·.1))
  | .own _ => ∃ o, h.get? a = some o
  | .xd fs => ∃ mA, h.Ns1 a mA ∧ ∀ f, RelO (fs.lookup f) (mA f)
  | .rng lo hi => ∃ t u v, h.get? a = some { cls := .type "range", data := .fields #[.int lo t, .int hi u, .int 1 v] }
  | .frz o u => h.get? a = some o ∧ ObjOk H h a u
  | .tbl ps => h.get? a = some { cls := .none, data := .fields ps }
  | .met f x => h.get? a = some (PySem.W.methodObj (.ref f) (.ref x))
  | .ext φ => φ h ∧ (∃ o, h.get? a = some o) ∧ ∀ h1 h2 : Heap, φ h1 → (∀ o, h1.get? a = some o → h2.get? a = some o) → φ h2
/-- the abstract heap is held -/
def HOk (H : Hp) (h : Heap) : Prop := ∀ a o, H a = some o → ObjOk P w H h a o
end

section
variable {P : Program} {w : World} {H H' : Hp} {h h' : Heap} {a : Addr} {o : HO}
theorem ObjOk.lt (x : ObjOk P w H h a o) : a < h.objs.size := by
  cases o with
  | lst xs => obtain ⟨_, _, _, _, e⟩ := x; exact Heap.lt_size e
  | tup xs => obtain ⟨_, _, _, p⟩ := x; exact p.tup.lt
  | dK kvs => obtain ⟨_, _, _, _, o, _, _, e, _⟩ := x; exact Heap.lt_size e
  | dT kvs => obtain ⟨_, _, _, _, o, _, _, e, _⟩ := x; exact Heap.lt_size e
  | set S n => obtain ⟨o, _, _, _, e, _⟩ := x; exact Heap.lt_size e
  | ins C dx fs => obtain ⟨_, _, _, e, _⟩ := x; exact Heap.lt_size e
  | own y => obtain ⟨_, e⟩ := x; exact Heap.lt_size e
  | xd fs => obtain ⟨_, ⟨_, _, _, e, _⟩, _⟩ := x; exact Heap.lt_size e
  | rng lo hi => obtain ⟨_, _, _, e⟩ := x; exact Heap.lt_size e
  | frz ob u => obtain ⟨e, _⟩ := x; exact Heap.lt_size e
  | tbl ps => exact Heap.lt_size (show h.get? a = some _ from x)
  | met f y => exact Heap.lt_size (show h.get? a = some _ from x)
  | ext φ => obtain ⟨_, ⟨_, e⟩, _⟩ := x; exact Heap.lt_size e
theorem Paired.mapP {α β : Type} {F G : α → β → Prop} : ∀ {l₁ : List α} {l₂ : List β}, Paired F l₁ l₂ → (∀ a b, F a b → G a b) → Paired G l₁ l₂
  | _, _, .nil, _ => .nil
  | _, _, .cons r t, f => .cons (f _ _ r) (Paired.mapP t f)
theorem Paired.imp' {α β : Type} {F G : α → β → Prop} (f : ∀ a b, F a b → G a b) {l₁ : List α} {l₂ : List β} (r : Paired F l₁ l₂) : Paired G l₁ l₂ := Paired.mapP r f
/-- what an object's description leans on: its own object, its own dict, the tuples -/
theorem ObjOk.stay (x : ObjOk P w H h a o) (k : ∀ b u, (b = a ∨ H b = some (.own a)) → h.get? b = some u → h'.get? b = some u)
    (ho : ∀ b, H b = some (.own a) → H' b = some (.own a)) (ht : ∀ b xs, H b = some (.tup xs) → H' b = some (.tup xs)) : ObjOk P w H' h' a o := by
  induction o with
  | lst xs => obtain ⟨z, its, n, r, e⟩ := x; exact ⟨z, its, n, r, k _ _ (.inl rfl) e⟩
  | tup xs => obtain ⟨z, its, r, ob, e, c⟩ := x; exact ⟨z, its, r, ob, k _ _ (.inl rfl) e, c⟩
  | dK kvs => obtain ⟨z, y, vs, r, ob, es, ep, e, c⟩ := x; exact ⟨z, y, vs, r, ob, es, ep, k _ _ (.inl rfl) e, c⟩
  | dT kvs =>
    obtain ⟨z, y, xs, r, ob, es, ep, e, c⟩ := x
    exact ⟨z, y, xs, Paired.mapP r fun p q z => ⟨z.1, ht _ _ z.2.1, z.2.2⟩, ob, es, ep, k _ _ (.inl rfl) e, c⟩
  | set S n => obtain ⟨ob, es, ep, t, e, c⟩ := x; exact ⟨ob, es, ep, t, k _ _ (.inl rfl) e, c⟩
  | ins C dx fs =>
    obtain ⟨d, z, ne, e, mA, ⟨od, es, ep, e2, c⟩, r⟩ := x
    exact ⟨ho _ d, z, ne, k _ _ (.inl rfl) e, mA, ⟨od, es, ep, k _ _ (.inr d) e2, c⟩, r⟩
  | own y => obtain ⟨ob, e⟩ := x; exact ⟨ob, k _ _ (.inl rfl) e⟩
  | xd fs => obtain ⟨mA, ⟨od, es, ep, e, c⟩, r⟩ := x; exact ⟨mA, ⟨od, es, ep, k _ _ (.inl rfl) e, c⟩, r⟩
  | rng lo hi => obtain ⟨t, u, v, e⟩ := x; exact ⟨t, u, v, k _ _ (.inl rfl) e⟩
  | frz ob u ih => obtain ⟨e, q⟩ := x; exact ⟨k _ _ (.inl rfl) e, ih q⟩
  | tbl ps =>
    have e : h.get? a = some { cls := .none, data := .fields ps } := x
    show h'.get? a = some { cls := .none, data := .fields ps }
    exact k a _ (.inl rfl) e
  | met f y =>
    have e : h.get? a = some (PySem.W.methodObj (.ref f) (.ref y)) := x
    show h'.get? a = some (PySem.W.methodObj (.ref f) (.ref y))
    exact k a _ (.inl rfl) e
  | ext φ => obtain ⟨p, ⟨o, e⟩, st⟩ := x; exact ⟨st _ _ p fun o q => k _ _ (.inl rfl) q, ⟨o, k _ _ (.inl rfl) e⟩, st⟩
theorem HOk.lt (x : HOk P w H h) (e : H a = some o) : a < h.objs.size := (x a o e).lt
theorem HOk.fresh (x : HOk P w H h) (e : h.objs.size ≤ a) : H a = none := by
  cases q : H a with
  | none => rfl
  | some u => exact absurd (Nat.lt_of_lt_of_le (x.lt q) e) (Nat.lt_irrefl _)
/-- every object of the heap is kept -/
theorem HOk.kept (x : HOk P w H h) (k : ∀ b u, h.get? b = some u → h'.get? b = some u) : HOk P w H h' := fun a o e =>
  (x a o e).stay (fun b u _ q => k b u q) (fun _ q => q) fun _ _ q => q
/-- a new object is laid and tracked -/
theorem HOk.laid (x : HOk P w H h) (k : ∀ b u, h.get? b = some u → h'.get? b = some u) (hp : h.objs.size ≤ a) (new : ObjOk P w (upd H a o) h' a o) : HOk P w (upd H a o) h' := fun b u e => by
  have hn := x.fresh hp
  by_cases hb : b = a
  · subst hb; rw [upd_same] at e; cases e; exact new
  · rw [upd_ne hb] at e
    exact (x b u e).stay (fun c v _ q => k c v q) (fun c q => by rw [upd_ne (ne_of_none q hn)]; exact q) fun c xs q => by rw [upd_ne (ne_of_none q hn)]; exact q
end

/-- what may be read as u: it is u, or a known u -/
def Rd (H : Hp) (a : Addr) (u : HO) : Prop := H a = some u ∨ ∃ o, H a = some (.frz o u)
theorem Rd.of {H : Hp} {a : Addr} {u : HO} (h : H a = some u) : Rd H a u := .inl h
theorem Rd.ok {P : Program} {w : World} {H : Hp} {h : Heap} {a : Addr} {u : HO} (r : Rd H a u) (x : HOk P w H h) : ObjOk P w H h a u := by
  rcases r with r | ⟨o, r⟩
  · exact x a u r
  · obtain ⟨_, q⟩ := x a _ r
    exact q
/-- what may be written -/
def Mut : Option HO → Prop
  | some (.lst _) => True
  | some (.dK _) => True
  | some (.dT _) => True
  | some (.set _ _) => True
  | some (.ins _ _ _) => True
  | some (.ext _) => True
  | _ => False
section
variable {P : Program} {w : World} {H : Hp} {h h' : Heap} {x e : Addr} {o' : HO}
/-- the object at e is changed: x itself, or the dict of the instance x -/
theorem HOk.write (ok : HOk P w H h) (mu : Mut (H x)) (he : e = x ∨ H e = some (.own x)) (k : ∀ b u, b ≠ e → h.get? b = some u → h'.get? b = some u) (heo : ∃ u, h'.get? e = some u)
    (new : ObjOk P w (upd H x o') h' x o') : HOk P w (upd H x o') h' := fun b u q => by
  have nown : ∀ c y, H c = some (.own y) → c ≠ x := fun c y r z => by subst z; rw [r] at mu; exact mu
  have ntup : ∀ c xs, H c = some (.tup xs) → c ≠ x := fun c xs r z => by subst z; rw [r] at mu; exact mu
  by_cases hb : b = x
  · subst hb; rw [upd_same] at q; cases q; exact new
  · rw [upd_ne hb] at q
    by_cases hbe : b = e
    · have q' : H b = some (.own x) := by
        rcases he with z | z
        · exact absurd (hbe.trans z) hb
        · rw [hbe]; exact z
      rw [q] at q'; cases q'
      obtain ⟨v, hv⟩ := heo
      exact ⟨v, by rw [hbe]; exact hv⟩
    · refine (ok b u q).stay (fun c v hc r => k c v ?_ r) (fun c r => by rw [upd_ne (nown c b r)]; exact r) fun c xs r => by rw [upd_ne (ntup c xs r)]; exact r
      rcases hc with rfl | hc
      · exact hbe
      · rintro rfl
        rcases he with z | z
        · exact nown c b hc z
        · rw [hc] at z; cases z; exact hb rfl
end

/-! ### kept unless tracked; of the frames at fs (the callers') the slots may change (an exception that passes writes there); of the records at ex (iterators) nothing is said -/
structure Un (fs ex : List Addr) (H H' : Hp) (h h' : Heap) : Prop where
  keep : ∀ b o, h.get? b = some o → H b = none → b ∉ fs → b ∉ ex → h'.get? b = some o
  slot : ∀ b o, h.get? b = some o → H b = none → b ∈ fs → b ∉ ex → ∃ sl, h'.get? b = some { o with slots := sl }
  free : ∀ b o, h.get? b = some o → H b = none → b ∉ ex → H' b = none
  there : ∀ b o, h.get? b = some o → b ∉ ex → ∃ o', h'.get? b = some o'
  tups : ∀ b xs, H b = some (.tup xs) → H' b = some (.tup xs)
  frzs : ∀ b o u, H b = some (.frz o u) → H' b = some (.frz o u)
  tbls : ∀ b ps, H b = some (.tbl ps) → ∃ more, H' b = some (.tbl (ps ++ more))
section
variable {fs fs' ex ex' : List Addr} {H H1 H2 : Hp} {h h1 h2 h' : Heap} {a x e : Addr} {o : HO}
theorem Un.any (u : Un fs ex H H1 h h1) {b : Addr} {ob : Obj} (q : h.get? b = some ob) (n : H b = none) (hx : b ∉ ex) : ∃ sl, h1.get? b = some { ob with slots := sl } := by
  by_cases hb : b ∈ fs
  · exact u.slot b ob q n hb hx
  · exact ⟨ob.slots, u.keep b ob q n hb hx⟩
theorem Un.trans (a : Un fs ex H H1 h h1) (b : Un fs ex H1 H2 h1 h2) : Un fs ex H H2 h h2 where
  keep := fun c ob q n hc hx => b.keep c ob (a.keep c ob q n hc hx) (a.free c ob q n hx) hc hx
  slot := fun c ob q n hc hx => by
    obtain ⟨sl, e1⟩ := a.slot c ob q n hc hx
    obtain ⟨sl', e2⟩ := b.slot c _ e1 (a.free c ob q n hx) hc hx
    exact ⟨sl', e2⟩
  free := fun c ob q n hx => by
    obtain ⟨o', e1⟩ := a.there c ob q hx
    exact b.free c o' e1 (a.free c ob q n hx) hx
  there := fun c ob q hx => by
    obtain ⟨o', e1⟩ := a.there c ob q hx
    exact b.there c o' e1 hx
  tups := fun c xs q => b.tups c xs (a.tups c xs q)
  frzs := fun c ob xs q => b.frzs c ob xs (a.frzs c ob xs q)
  tbls := fun c ps q => by
    obtain ⟨m1, e1⟩ := a.tbls c ps q
    obtain ⟨m2, e2⟩ := b.tbls c _ e1
    exact ⟨m1 ++ m2, by rw [e2, Array.append_assoc]⟩
theorem Un.kept (k : ∀ b u, h.get? b = some u → h'.get? b = some u) : Un fs ex H H h h' :=
  ⟨fun b ob q _ _ _ => k b ob q, fun b ob q _ _ _ => ⟨ob.slots, k b ob q⟩, fun _ _ _ n _ => n, fun b ob q _ => ⟨ob, k b ob q⟩, fun _ _ q => q, fun _ _ _ q => q, fun _ ps q => ⟨#[], by rw [q]; simp⟩⟩
theorem Un.refl : Un fs ex H H h h := Un.kept fun _ _ q => q
theorem Un.laid (k : ∀ b u, h.get? b = some u → h'.get? b = some u) (hp : h.objs.size ≤ a) (hn : H a = none) : Un fs ex H (upd H a o) h h' where
  keep := fun b u q _ _ _ => k b u q
  slot := fun b u q _ _ _ => ⟨u.slots, k b u q⟩
  free := fun b u q n _ => by rw [upd_ne (Nat.ne_of_lt (Nat.lt_of_lt_of_le (Heap.lt_size q) hp))]; exact n
  there := fun b u q _ => ⟨u, k b u q⟩
  tups := fun b xs q => by rw [upd_ne (ne_of_none q hn)]; exact q
  frzs := fun b u xs q => by rw [upd_ne (ne_of_none q hn)]; exact q
  tbls := fun b ps q => ⟨#[], by rw [upd_ne (ne_of_none q hn), q]; simp⟩
theorem Un.write (mu : Mut (H x)) (he : e = x ∨ H e = some (.own x)) (k : ∀ b u, b ≠ e → h.get? b = some u → h'.get? b = some u) (heo : ∃ u, h'.get? e = some u) : Un fs ex H (upd H x o) h h' := by
  have hx : ∀ b, H b = none → b ≠ x := fun b n z => by subst z; rw [n] at mu; exact mu
  have hb : ∀ b, H b = none → b ≠ e := fun b n z => by
    subst z
    rcases he with r | r
    · exact hx b n r
    · rw [n] at r; cases r
  have hm : ∀ b u, H b = some u → ¬ Mut (some u) → b ≠ x := fun b u q nm z => by subst z; rw [q] at mu; exact nm mu
  refine ⟨fun b u q n _ _ => k b u (hb b n) q, fun b u q n _ _ => ⟨u.slots, k b u (hb b n) q⟩, fun b u q n _ => by rw [upd_ne (hx b n)]; exact n, fun b u q _ => ?_,
    fun b xs q => by rw [upd_ne (hm b _ q fun z => z)]; exact q, fun b u xs q => by rw [upd_ne (hm b _ q fun z => z)]; exact q, fun b ps q => ⟨#[], by rw [upd_ne (hm b _ q fun z => z), q]; simp⟩⟩
  by_cases hbe : b = e
  · subst hbe; exact heo
  · exact ⟨u, k b u hbe q⟩
theorem Un.mono (u : Un fs ex H H1 h h1) (hs : ∀ b ∈ fs, b ∈ fs') (hx : ∀ b ∈ ex, b ∈ ex') : Un fs' ex' H H1 h h1 :=
  ⟨fun b ob q n hb he => u.keep b ob q n (fun z => hb (hs b z)) fun z => he (hx b z), fun _ _ q n _ he => u.any q n fun z => he (hx _ z), fun b ob q n he => u.free b ob q n fun z => he (hx b z), fun b ob q he => u.there b ob q fun z => he (hx b z), u.tups, u.frzs, u.tbls⟩
end

/-! ### the heap without what is tracked -/
def trk (h : Heap) (H : Hp) : List Addr := (List.range h.objs.size).filter fun a => (H a).isSome
def hidT (h : Heap) (H : Hp) : Heap := PySem.W.hideAll h (trk h H)
theorem hidT_size (h : Heap) (H : Hp) : (hidT h H).objs.size = h.objs.size := PySem.W.hideAll_size _ _
theorem hidT_get {h : Heap} {H : Hp} {b : Addr} {o : Obj} (e : h.get? b = some o) (n : H b = none) : (hidT h H).get? b = some o :=
  PySem.W.hideAll_get _ e fun hm => by
    have q : (H b).isSome = true := (List.mem_filter.mp hm).2
    rw [n] at q; simp at q
theorem of_hidT {h : Heap} {H : Hp} {b : Addr} {o : Obj} (e : (hidT h H).get? b = some o) : h.get? b = some o ∧ H b = none := by
  have e' : h.get? b = some o := PySem.W.of_hideAll (trk h H) e
  refine ⟨e', ?_⟩
  cases q : H b with
  | none => rfl
  | some x =>
    have hm : b ∈ trk h H := List.mem_filter.mpr ⟨List.mem_range.mpr (Heap.lt_size e'), by simp [q]⟩
    have z : (hidT h H).get? b = none := PySem.W.hideAll_none (trk h H) hm
    rw [z] at e; cases e

/-! ### OpenK's ledger, filled with every new object but one -/
def allNews (g h : Heap) (L : Addr) : List (Addr × Obj) := (List.range h.objs.size).filterMap fun a => if a = L ∨ (g.get? a).isSome = true then none else (h.get? a).map fun o => (a, o)
theorem mem_allNews {g h : Heap} {L a : Addr} {o : Obj} (h1 : a ≠ L) (h2 : g.get? a = none) (h3 : h.get? a = some o) : (a, o) ∈ allNews g h L :=
  List.mem_filterMap.mpr ⟨a, List.mem_range.mpr (Heap.lt_size h3), by simp [h1, h2, h3]⟩
theorem of_mem_allNews {g h : Heap} {L : Addr} {p : Addr × Obj} (hp : p ∈ allNews g h L) : p.1 ≠ L ∧ g.get? p.1 = none ∧ h.get? p.1 = some p.2 := by
  obtain ⟨b, _, e⟩ := List.mem_filterMap.mp hp
  split at e
  · cases e
  · rename_i hn
    cases q : h.get? b with
    | none => rw [q] at e; simp at e
    | some u =>
      rw [q] at e
      simp only [Option.map_some, Option.some.injEq] at e
      subst e
      refine ⟨fun z => hn (.inl z), ?_, q⟩
      show g.get? b = none
      cases r : g.get? b with
      | none => rfl
      | some v => exact (hn (.inr (by simp [r]))).elim
def rest (g h : Heap) (L d : Addr) : List (Addr × Obj) := (allNews g h L).filter fun p => decide (p.1 ≠ d)
theorem rest_ne {g h : Heap} {L d : Addr} : ∀ p ∈ rest g h L d, p.1 ≠ d := fun p hp => of_decide_eq_true (List.mem_filter.mp hp).2
theorem mem_rest {g h : Heap} {L d a : Addr} {o : Obj} (h1 : a ≠ L) (h2 : g.get? a = none) (h3 : h.get? a = some o) (h4 : a ≠ d) : (a, o) ∈ rest g h L d :=
  List.mem_filter.mpr ⟨mem_allNews h1 h2 h3, decide_eq_true h4⟩
theorem news_all {g h : Heap} {L : Addr} : News g L h (allNews g h L) := fun p hp => let ⟨a, b, c⟩ := of_mem_allNews hp; ⟨c, a, b⟩
theorem news_at {g h : Heap} {L d : Addr} {o : Obj} (h1 : d ≠ L) (h2 : g.get? d = none) (h3 : h.get? d = some o) : News g L h ((d, o) :: rest g h L d) := fun p hp => by
  rcases List.mem_cons.mp hp with rfl | hp
  · exact ⟨h3, h1, h2⟩
  · exact news_all p (List.mem_filter.mp hp).1
/-- behind a rule that changed d alone: all else but the frame is kept -/
theorem kept_of_news {g h h' : Heap} {L d : Addr} {m : Str → Option Value} (k : ∀ b o, g.get? b = some o → h.get? b = some o) (F : Fr g L h' m) (N : News g L h' (rest g h L d)) :
    ∀ b o, b ≠ L → b ≠ d → h.get? b = some o → h'.get? b = some o := fun b o h1 h2 e => by
  cases q : g.get? b with
  | some u =>
    have := k b u q
    rw [e] at this; cases this
    exact F.keep b _ q
  | none => exact (N (b, o) (mem_rest h1 q e h2)).1
end L2

namespace L2
open PySem PySem.Spec PyProof.Rows

/-- the module's facts, over the base: the heap at the law's entry without what is tracked there -/
structure Mod (K : PySem.W.Frag) (mg : Str → Option Value) (base : Heap) : Prop where
  kin : K.In base
  glob : base.Ns mainGlobals mg
  blt : ∃ mb, base.Ns builtinsNs mb ∧ ∀ x : Str, x ≠ "__name__" → mb x = bootBuiltins x
  nolimit : base.NoLimit

/-- the context: a def's body (or a comprehension's block) running. base: fixed through the whole law; s₀, H₀: the entry; outer: the frames whose slots others may change (a def's callers); stack: all frames that run;
   ex: iterators that were made ahead of the entry and are walked here (a comprehension's); fn: the names whose cells were made at the entry (a def: all; a comprehension's block: its own); calm: not within an except suite; pn: pins that every state bears; xe: what is wanted of an exception that leaves the code -/
structure Cx where
  prog : Program
  w : World
  K : PySem.W.Frag
  mg : Str → Option Value
  base : Heap
  A : Around
  N : List Str
  s₀ : Shared
  H₀ : Hp
  env : Env
  outer : List Env
  stack : List Env
  ex : List Addr
  fn : Str → Bool
  calm : Bool
  pn : List (Addr × Obj)
  xe : Value → Shared → Prop
/-- the callers' frames -/
def frs (l : List Env) : List Addr := l.filterMap (·.frame)
abbrev Cx.fs (X : Cx) : List Addr := frs X.outer

def Vis (sc : Scope) (x : Str) : Prop := sc.names.lookup x = some .local ∨ sc.names.lookup x = some .cell ∨ sc.names.lookup x = some .free
def Loc (sc : Scope) (x : Str) : Prop := sc.names.lookup x = some .local ∨ sc.names.lookup x = some .cell
def Look (env : Env) (h : Heap) (m : Str → Option Value) (x : Str) (u : Value) : Prop :=
  (env.kindOf x = some .local ∧ m x = some u) ∨ ((env.kindOf x = some .cell ∨ env.kindOf x = some .free) ∧ ∃ c, env.cells.lookup x = some c ∧ h.IsCell c (some u))

structure Cx.Ok (X : Cx) : Prop where
  mod : Mod X.K X.mg X.base
  kind : X.env.scope.kind = .function
  glob : X.env.globals = mainGlobals
  blt : X.env.builtins = builtinsNs
  above : X.s₀.heap.objs.size ≤ X.env.locals
  inj : ∀ x y c, X.env.cells.lookup x = some c → X.env.cells.lookup y = some c → x = y
  has : ∀ x, (X.env.kindOf x = some .cell ∨ X.env.kindOf x = some .free) → ∃ c, X.env.cells.lookup x = some c
  cab : ∀ x c, X.fn x = true → X.env.cells.lookup x = some c → X.s₀.heap.objs.size ≤ c
  hd : X.calm = true → X.A.handled = none
  frames : X.A.frames = some X.stack
  stk : X.stack = X.outer ∨ (X.stack = X.env :: X.outer ∧ X.env.frame = some X.env.locals)
  exf : ∀ b ∈ X.ex, b ≠ X.env.locals ∧ ∀ x c, X.env.cells.lookup x = some c → c ≠ b
  bs : ∀ b o, X.base.get? b = some o → X.s₀.heap.get? b = some o ∧ X.H₀ b = none
  bsz : X.base.objs.size ≤ X.s₀.heap.objs.size
  noex : ∀ b o, X.base.get? b = some o → b ∉ X.ex
  exfs : ∀ b ∈ X.ex, b ∉ X.fs
  funs : X.s₀.heap.FunFrames X.base X.outer
  frf : ∀ b ∈ X.fs, X.H₀ b = none

structure Inv (X : Cx) (pins : List (Addr × Obj)) (σ : List (Option V)) (H : Hp) (s : Shared) : Prop where
  ok : X.Ok
  os : s.os = X.s₀.os
  bare : AllBare s.gens
  base : Un X.fs X.ex X.H₀ H X.s₀.heap s.heap
  loc : ∃ m, s.heap.Ns X.env.locals m ∧ ∀ (i : Nat) (x : Str) (v : V), X.N[i]? = some x → σ[i]? = some (some v) → Vis X.env.scope x → ∃ u, RelV v u ∧ Look X.env s.heap m x u
  cell : ∀ x c, X.env.cells.lookup x = some c → ∃ v, s.heap.IsCell c v
  free : H X.env.locals = none
  freeC : ∀ x c, X.env.cells.lookup x = some c → H c = none
  pin : ∀ p ∈ X.pn ++ pins, s.heap.get? p.1 = some p.2 ∧ H p.1 = none ∧ p.1 ≠ X.env.locals ∧ p.1 ∉ X.fs ∧ ∀ v, p.2.data ≠ .cell v
  hok : HOk X.prog X.w H s.heap
  len : σ.length = X.N.length

section
variable {X : Cx} {pins : List (Addr × Obj)} {σ : List (Option V)} {H H' : Hp} {s : Shared} {h' : Heap}

theorem Cx.Ok.nofr (ok : X.Ok) {b : Addr} {o : Obj} (e : X.base.get? b = some o) : b ∉ X.fs := fun hb => by
  have := (ok.funs.mem hb).1
  rw [e] at this; cases this
theorem Inv.bs (I : Inv X pins σ H s) : ∀ b o, X.base.get? b = some o → s.heap.get? b = some o ∧ H b = none := fun b o e =>
  ⟨I.base.keep b o (I.ok.bs b o e).1 (I.ok.bs b o e).2 (I.ok.nofr e) (I.ok.noex b o e), I.base.free b o (I.ok.bs b o e).1 (I.ok.bs b o e).2 (I.ok.noex b o e)⟩
theorem Inv.bk (I : Inv X pins σ H s) : ∀ b o, X.base.get? b = some o → s.heap.get? b = some o := fun b o e => (I.bs b o e).1
theorem Inv.mod (I : Inv X pins σ H s) : Mod X.K X.mg X.base := I.ok.mod
theorem Inv.kIn (I : Inv X pins σ H s) : X.K.In s.heap := I.ok.mod.kin.keeps I.bk
theorem Inv.nolimit (I : Inv X pins σ H s) : s.heap.NoLimit := I.ok.mod.nolimit.keeps I.bk
/-- the frame over the base: for OpenK's rules (K.In X.base is I.mod.kin) -/
theorem Inv.fr (I : Inv X pins σ H s) : ∃ m, Fr X.base X.env.locals s.heap m :=
  let ⟨m, hn, _⟩ := I.loc
  ⟨m, hn, I.bk, Nat.le_trans I.ok.bsz I.ok.above⟩
theorem Inv.lt (I : Inv X pins σ H s) : X.env.locals < s.heap.objs.size := let ⟨_, hn, _⟩ := I.loc; hn.lt
theorem Inv.sz (I : Inv X pins σ H s) : X.s₀.heap.objs.size ≤ s.heap.objs.size := Nat.le_trans I.ok.above (Nat.le_of_lt I.lt)
theorem Inv.nofs (I : Inv X pins σ H s) {a : Addr} (h : s.heap.objs.size ≤ a) : a ∉ X.fs := fun hb => by
  obtain ⟨_, o, ho, _⟩ := I.ok.funs.mem hb
  exact absurd (Nat.lt_of_lt_of_le (Heap.lt_size ho) (Nat.le_trans I.sz h)) (Nat.lt_irrefl _)
theorem Inv.cne (I : Inv X pins σ H s) : ∀ x c, X.env.cells.lookup x = some c → c ≠ X.env.locals := fun x c e z => by
  obtain ⟨v, o, ho, hd⟩ := I.cell x c e
  obtain ⟨m, ⟨o', es, ep, ho', hd', _⟩, _⟩ := I.loc
  rw [z, ho'] at ho; cases ho; rw [hd'] at hd; cases hd
theorem Inv.funs (I : Inv X pins σ H s) : s.heap.FunFrames X.base X.outer := by
  have all : ∀ (l : List Env), (∀ b ∈ frs l, b ∈ X.fs) → X.s₀.heap.FunFrames X.base l → s.heap.FunFrames X.base l := by
    intro l
    induction l with
    | nil => intro _ _; trivial
    | cons env r ih =>
      intro hs hl
      obtain ⟨hk, ⟨L, o, hf, hn, ho, hd⟩, hr⟩ := hl
      have hL : L ∈ X.fs := hs L (by unfold frs; rw [List.filterMap_cons, hf]; exact List.mem_cons_self)
      obtain ⟨sl, e⟩ := I.base.slot L o ho (I.ok.frf L hL) hL fun z => I.ok.exfs L z hL
      exact ⟨hk, ⟨L, _, hf, hn, e, hd⟩, ih (fun b hb => hs b (by unfold frs; rw [List.filterMap_cons, hf]; exact List.mem_cons_of_mem _ hb)) hr⟩
  exact all X.outer (fun _ hb => hb) I.ok.funs

/-- the frames that run, for a call -/
theorem Inv.stack (I : Inv X pins σ H s) : s.heap.FunFrames X.base X.stack := by
  rcases I.ok.stk with e | ⟨e, hf⟩
  · rw [e]; exact I.funs
  · rw [e]
    obtain ⟨m, hn, _⟩ := I.loc
    refine .cons (by rw [I.ok.kind]; decide) hf hn ?_ I.funs
    exact Heap.get?_none_of_le (Nat.le_trans I.ok.bsz I.ok.above)
theorem Inv.stkSub (I : Inv X pins σ H s) : ∀ b ∈ frs X.stack, b ∈ X.env.locals :: X.fs := fun b hb => by
  rcases I.ok.stk with e | ⟨e, hf⟩
  · rw [e] at hb; exact List.mem_cons_of_mem _ hb
  · rw [e] at hb
    unfold frs at hb
    rw [List.filterMap_cons, hf] at hb
    exact hb
theorem Inv.stkFree (I : Inv X pins σ H s) : ∀ b ∈ frs X.stack, H b = none := fun b hb => by
  rcases List.mem_cons.mp (I.stkSub b hb) with e | hb
  · rw [e]; exact I.free
  · obtain ⟨_, o, ho, _⟩ := I.ok.funs.mem hb
    exact I.base.free b o ho (I.ok.frf b hb) fun z => I.ok.exfs b z hb

/-- THE STEP: the untracked objects but the frame and the records at ch are kept (the callers' frames up to slots), the frame's map is kept, the new abstract heap is held -/
theorem Inv.step {g' : Array GenState} {t' : Nat} {d' : Drawn} {ch : List Addr} (I : Inv X pins σ H s)
    (hch : ∀ b ∈ ch, (b ∈ X.ex ∨ X.s₀.heap.objs.size ≤ b) ∧ b ≠ X.env.locals ∧ (∀ x c, X.env.cells.lookup x = some c → c ≠ b) ∧ ∀ p ∈ X.pn ++ pins, p.1 ≠ b)
    (keep : ∀ b o, b ≠ X.env.locals → b ∉ X.fs → b ∉ ch → s.heap.get? b = some o → H b = none → h'.get? b = some o)
    (slot : ∀ b o, b ≠ X.env.locals → b ∈ X.fs → b ∉ ch → s.heap.get? b = some o → H b = none → ∃ sl, h'.get? b = some { o with slots := sl }) (free : ∀ b o, b ∉ ch → s.heap.get? b = some o → H b = none → H' b = none)
    (there : ∀ b o, b ∉ ch → s.heap.get? b = some o → ∃ o', h'.get? b = some o')
    (tups : ∀ b xs, H b = some (.tup xs) → H' b = some (.tup xs)) (frzs : ∀ b o u, H b = some (.frz o u) → H' b = some (.frz o u)) (tbls : ∀ b ps, H b = some (.tbl ps) → ∃ more, H' b = some (.tbl (ps ++ more)))
    (ns : ∀ m, s.heap.Ns X.env.locals m → h'.Ns X.env.locals m) (hok : HOk X.prog X.w H' h') (hg : AllBare g') :
    Inv X pins σ H' { s with heap := h', gens := g', drawn := d', toks := t' } := by
  have neL : ∀ b o, X.s₀.heap.get? b = some o → b ≠ X.env.locals := fun b o e => Nat.ne_of_lt (Nat.lt_of_lt_of_le (Heap.lt_size e) I.ok.above)
  have neC : ∀ b o, X.s₀.heap.get? b = some o → b ∉ X.ex → b ∉ ch := fun b o e hx hb => by
    rcases (hch b hb).1 with z | z
    · exact hx z
    · exact absurd (Nat.lt_of_lt_of_le (Heap.lt_size e) z) (Nat.lt_irrefl _)
  have cellK : ∀ x c, X.env.cells.lookup x = some c → ∀ v, s.heap.IsCell c v → h'.IsCell c v := fun x c e v ⟨o, ho, hd⟩ => by
    have nch : c ∉ ch := fun z => (hch c z).2.2.1 x c e rfl
    by_cases hc : c ∈ X.fs
    · obtain ⟨sl, q⟩ := slot c o (I.cne x c e) hc nch ho (I.freeC x c e)
      exact ⟨_, q, hd⟩
    · exact ⟨o, keep c o (I.cne x c e) hc nch ho (I.freeC x c e), hd⟩
  refine ⟨I.ok, I.os, hg, ⟨fun b o e n hb hx => ?_, fun b o e n hb hx => ?_, fun b o e n hx => ?_, fun b o e hx => ?_, fun b xs e => tups b xs (I.base.tups b xs e), fun b o xs e => frzs b o xs (I.base.frzs b o xs e), fun b ps e => ?_⟩, ?_, fun x c e => ?_, ?_, fun x c e => ?_, fun p hp => ?_, hok, I.len⟩
  · exact keep b o (neL b o e) hb (neC b o e hx) (I.base.keep b o e n hb hx) (I.base.free b o e n hx)
  · obtain ⟨sl, e1⟩ := I.base.slot b o e n hb hx
    obtain ⟨sl', e2⟩ := slot b _ (neL b o e) hb (neC b o e hx) e1 (I.base.free b o e n hx)
    exact ⟨sl', e2⟩
  · obtain ⟨o', e1⟩ := I.base.there b o e hx
    exact free b o' (neC b o e hx) e1 (I.base.free b o e n hx)
  · obtain ⟨o', e1⟩ := I.base.there b o e hx
    exact there b o' (neC b o e hx) e1
  · obtain ⟨m1, e1⟩ := I.base.tbls b ps e
    obtain ⟨m2, e2⟩ := tbls b _ e1
    exact ⟨m1 ++ m2, by rw [e2, Array.append_assoc]⟩
  · obtain ⟨m, hn, hl⟩ := I.loc
    refine ⟨m, ns m hn, fun i x v e1 e2 e3 => ?_⟩
    obtain ⟨u, r, l⟩ := hl i x v e1 e2 e3
    refine ⟨u, r, ?_⟩
    rcases l with l | ⟨k, c, e, z⟩
    · exact .inl l
    · exact .inr ⟨k, c, e, cellK x c e _ z⟩
  · obtain ⟨v, z⟩ := I.cell x c e
    exact ⟨v, cellK x c e v z⟩
  · obtain ⟨m, ⟨o, _, _, ho, _⟩, _⟩ := I.loc
    exact free _ o (fun z => (hch _ z).2.1 rfl) ho I.free
  · obtain ⟨v, o, ho, hd⟩ := I.cell x c e
    exact free c o (fun z => (hch c z).2.2.1 x c e rfl) ho (I.freeC x c e)
  · obtain ⟨e, n, ne, nf, d⟩ := I.pin p hp
    have nch : p.1 ∉ ch := fun z => (hch p.1 z).2.2.2 p hp rfl
    exact ⟨keep p.1 p.2 ne nf nch e n, free p.1 p.2 nch e n, ne, nf, d⟩
/-- .. where the frame's own object is kept too -/
theorem Inv.un {t' : Nat} (I : Inv X pins σ H s) (u : Un X.fs [] H H' s.heap h') (hok : HOk X.prog X.w H' h') : Inv X pins σ H' { s with heap := h', toks := t' } := by
  obtain ⟨m, ⟨o, es, ep, ho, r⟩, _⟩ := id I.loc
  obtain ⟨sl, hL⟩ := u.any ho I.free (by simp)
  exact I.step (g' := s.gens) (d' := s.drawn) (ch := []) (fun _ z => nomatch z) (fun b o _ hb _ e n => u.keep b o e n hb (by simp)) (fun b o _ hb _ e n => u.slot b o e n hb (by simp)) (fun b o _ e n => u.free b o e n (by simp)) (fun b o _ e => u.there b o e (by simp)) u.tups u.frzs u.tbls (fun m' hm => by
    obtain ⟨o', es', ep', ho', r'⟩ := hm
    rw [ho] at ho'; cases ho'
    exact ⟨_, es', ep', hL, r'⟩) hok I.bare
/-- behind a call (or a comprehension's block): the slots of this frame may have changed too, the records at ch may have turned -/
theorem Inv.call {g' : Array GenState} {t' : Nat} {d' : Drawn} {ch : List Addr} (I : Inv X pins σ H s) (u : Un (frs X.stack) ch H H' s.heap h') (hok : HOk X.prog X.w H' h') (hg : AllBare g')
    (hch : ∀ b ∈ ch, (b ∈ X.ex ∨ X.s₀.heap.objs.size ≤ b) ∧ b ≠ X.env.locals ∧ (∀ x c, X.env.cells.lookup x = some c → c ≠ b) ∧ ∀ p ∈ X.pn ++ pins, p.1 ≠ b) :
    Inv X pins σ H' { s with heap := h', gens := g', drawn := d', toks := t' } := by
  obtain ⟨m, ⟨o, es, ep, ho, r⟩, _⟩ := id I.loc
  obtain ⟨sl, hL⟩ := u.any ho I.free fun z => (hch _ z).2.1 rfl
  exact I.step (ch := ch) hch (fun b o hL hb hc e n => u.keep b o e n (fun z => (List.mem_cons.mp (I.stkSub b z)).elim hL hb) hc) (fun b o _ _ hc e n => u.any e n hc) (fun b o hc e n => u.free b o e n hc) (fun b o hc e => u.there b o e hc) u.tups u.frzs u.tbls (fun m' hm => by
    obtain ⟨o', es', ep', ho', r'⟩ := hm
    rw [ho] at ho'; cases ho'
    exact ⟨_, es', ep', hL, r'⟩) hok hg
/-- an untracked record of ours (an iterator) has turned -/
theorem Inv.turned {t' : Nat} {it : Addr} (I : Inv X pins σ H s) (k : ∀ b o, b ≠ it → s.heap.get? b = some o → h'.get? b = some o) (hn : H it = none) (hL : it ≠ X.env.locals)
    (h1 : it ∈ X.ex ∨ X.s₀.heap.objs.size ≤ it) (h2 : ∀ x c, X.env.cells.lookup x = some c → c ≠ it) (h3 : ∀ p ∈ X.pn ++ pins, p.1 ≠ it) : Inv X pins σ H { s with heap := h', toks := t' } := by
  have nit : ∀ b u, H b = some u → b ≠ it := fun b u e z => by rw [z, hn] at e; cases e
  refine I.step (g' := s.gens) (d' := s.drawn) (ch := [it]) (fun b hb => ?_) (fun b o _ _ hc e _ => k b o (fun z => hc (by simp [z])) e) (fun b o _ _ hc e _ => ⟨o.slots, k b o (fun z => hc (by simp [z])) e⟩) (fun _ _ _ _ n => n)
    (fun b o hc e => ⟨o, k b o (fun z => hc (by simp [z])) e⟩) (fun _ _ e => e) (fun _ _ _ e => e) (fun b ps e => ⟨#[], by rw [e]; simp⟩) (fun m hm => ?_) (fun b u e => ?_) I.bare
  · have e : b = it := by simpa using hb
    subst e
    exact ⟨h1, hL, h2, h3⟩
  · obtain ⟨o, es, ep, ho, r⟩ := hm
    exact ⟨o, es, ep, k _ o (Ne.symm hL) ho, r⟩
  · refine (I.hok b u e).stay (fun c v hc q => k c v ?_ q) (fun _ q => q) fun _ _ q => q
    rcases hc with z | z
    · rw [z]; exact nit b u e
    · exact nit c _ z
theorem Inv.tok (I : Inv X pins σ H s) (t : Nat) : Inv X pins σ H { s with toks := t } := I.un (h' := s.heap) (t' := t) Un.refl I.hok
/-- all objects kept -/
theorem Inv.kept {t' : Nat} (I : Inv X pins σ H s) (k : ∀ b u, s.heap.get? b = some u → h'.get? b = some u) : Inv X pins σ H { s with heap := h', toks := t' } := I.un (Un.kept k) (I.hok.kept k)
/-- a new object laid and tracked -/
theorem Inv.laid {a : Addr} {o : HO} {t' : Nat} (I : Inv X pins σ H s) (k : ∀ b u, s.heap.get? b = some u → h'.get? b = some u) (hp : s.heap.objs.size ≤ a) (new : ObjOk X.prog X.w (upd H a o) h' a o) :
    Inv X pins σ (upd H a o) { s with heap := h', toks := t' } := I.un (Un.laid k hp (I.hok.fresh hp)) (I.hok.laid k hp new)
/-- an object written -/
theorem Inv.write {x e : Addr} {o : HO} {t' : Nat} (I : Inv X pins σ H s) (mu : Mut (H x)) (he : e = x ∨ H e = some (.own x)) (k : ∀ b u, b ≠ e → s.heap.get? b = some u → h'.get? b = some u) (heo : ∃ u, h'.get? e = some u)
    (new : ObjOk X.prog X.w (upd H x o) h' x o) : Inv X pins σ (upd H x o) { s with heap := h', toks := t' } := I.un (Un.write mu he k heo) (I.hok.write mu he k heo new)
/-- forgetting slots, pins -/
theorem Inv.weak {σ' : List (Option V)} (I : Inv X pins σ H s) (hl : σ'.length = σ.length) (w : ∀ (i : Nat) v, σ'[i]? = some (some v) → σ[i]? = some (some v)) : Inv X pins σ' H s :=
  ⟨I.ok, I.os, I.bare, I.base, let ⟨m, hn, hl'⟩ := I.loc; ⟨m, hn, fun i x v e1 e2 e3 => hl' i x v e1 (w i v e2) e3⟩, I.cell, I.free, I.freeC, I.pin, I.hok, hl.trans I.len⟩
theorem Inv.pins_of {pins' : List (Addr × Obj)} (I : Inv X pins σ H s) (h : ∀ p ∈ pins', s.heap.get? p.1 = some p.2 ∧ H p.1 = none ∧ p.1 ≠ X.env.locals ∧ p.1 ∉ X.fs ∧ ∀ v, p.2.data ≠ .cell v) : Inv X pins' σ H s :=
  ⟨I.ok, I.os, I.bare, I.base, I.loc, I.cell, I.free, I.freeC, fun p hp => (List.mem_append.mp hp).elim (fun z => I.pin p (List.mem_append_left _ z)) (h p), I.hok, I.len⟩

theorem nodup_ix {N : List Str} (hN : N.Nodup) {i j : Nat} {x : Str} (a : N[i]? = some x) (b : N[j]? = some x) : i = j := by
  obtain ⟨h1, e1⟩ := List.getElem?_eq_some_iff.mp a
  obtain ⟨h2, e2⟩ := List.getElem?_eq_some_iff.mp b
  exact (List.getElem_inj hN).mp (e1.trans e2.symm)

/-- a name is stored; what changed -/
theorem store_ok2 {M : Model} {A : Around} {E : Value → Shared → Prop} {i : Nat} {x : Str} {v : V} {u : Value} {Q : Unit → Shared → Prop} (I : Inv X pins σ H s) (hN : X.N.Nodup) (hi : X.N[i]? = some x) (hx : Loc X.env.scope x) (r : RelV v u)
    (h : ∀ s', Inv X pins (σ.set i (some v)) H s' → (∃ a, Heap.SameBut a s.heap s'.heap ∧ (a = X.env.locals ∨ X.env.cells.lookup x = some a)) → Q () s') (hf : X.fn x = true ∨ X.env.scope.names.lookup x = some .local := by first | exact .inl rfl | exact .inr rfl | assumption) : wpAny M A (storeName X.env x u) Q E s := by
  obtain ⟨m, hn, hl⟩ := id I.loc
  have hcls : (X.env.scope.kind == .class || (X.env.scope.kind == .module && X.env.locals != X.env.globals)) = false := by rw [I.ok.kind]; rfl
  have hiσ : i < σ.length := by rw [I.len]; exact (List.getElem?_eq_some_iff.mp hi).1
  have cne := I.cne
  have tracked : ∀ {a : Addr} {h' : Heap}, (∃ o, s.heap.get? a = some o ∧ H a = none) → Heap.SameBut a s.heap h' → HOk X.prog X.w H h' := fun {a h'} ha hs b ob e => by
    obtain ⟨_, _, hfree⟩ := ha
    refine (I.hok b ob e).stay (fun c w' hc q => (hs.2 c ?_).trans q) (fun _ q => q) fun _ _ q => q
    rintro rfl
    rcases hc with rfl | hc
    · rw [hfree] at e; cases e
    · rw [hfree] at hc; cases hc
  rcases hx with hk | hk
  · refine wpAny_storeName_local hk hn (fun h' hn' hs => ?_) hcls
    obtain ⟨oL, _, _, hoL, _⟩ := id hn
    refine h _ ⟨I.ok, I.os, I.bare, ⟨fun b o e n hb hx => ?_, fun b o e n hb hx => ?_, I.base.free, fun b o e hx => ?_, I.base.tups, I.base.frzs, I.base.tbls⟩, ⟨_, hn', fun j y v' e1 e2 e3 => ?_⟩, fun y c e => ?_, I.free, I.freeC, fun p hp => ?_, tracked ⟨oL, hoL, I.free⟩ hs, by simpa using I.len⟩ ⟨_, hs, .inl rfl⟩
    · exact (hs.2 b (Nat.ne_of_lt (Nat.lt_of_lt_of_le (Heap.lt_size e) I.ok.above))).trans (I.base.keep b o e n hb hx)
    · obtain ⟨sl, e1⟩ := I.base.slot b o e n hb hx
      exact ⟨sl, (hs.2 b (Nat.ne_of_lt (Nat.lt_of_lt_of_le (Heap.lt_size e) I.ok.above))).trans e1⟩
    · obtain ⟨o', e1⟩ := I.base.there b o e hx
      exact ⟨o', (hs.2 b (Nat.ne_of_lt (Nat.lt_of_lt_of_le (Heap.lt_size e) I.ok.above))).trans e1⟩
    · by_cases hj : j = i
      · subst hj
        rw [hi] at e1; cases e1
        rw [List.getElem?_set_self hiσ] at e2
        cases e2
        exact ⟨u, r, .inl ⟨hk, by simp⟩⟩
      · rw [List.getElem?_set_ne (Ne.symm hj)] at e2
        obtain ⟨u', r', q⟩ := hl j y v' e1 e2 e3
        refine ⟨u', r', ?_⟩
        rcases q with ⟨k, e⟩ | ⟨k, c, e, z⟩
        · refine .inl ⟨k, ?_⟩
          have : y ≠ x := fun e => hj (nodup_ix hN e1 (e ▸ hi))
          simp [this, e]
        · exact .inr ⟨k, c, e, z.sameBut hs (cne y c e)⟩
    · obtain ⟨w', z⟩ := I.cell y c e
      exact ⟨w', z.sameBut hs (cne y c e)⟩
    · obtain ⟨e, n, ne, nf, d⟩ := I.pin p hp
      exact ⟨(hs.2 p.1 ne).trans e, n, ne, nf, d⟩
  · have hfn : X.fn x = true := by
      rcases hf with z | z
      · exact z
      · rw [z] at hk; cases hk
    obtain ⟨c, hc⟩ := I.ok.has x (.inl hk)
    obtain ⟨w', z⟩ := I.cell x c hc
    refine wpAny_storeName_cell I.ok.kind hk hc z (fun h' hc' hs => ?_)
    obtain ⟨oc, hoc, hocd⟩ := id z
    refine h { s with heap := h' } ⟨I.ok, I.os, I.bare, ⟨fun b o e n hb hx => ?_, fun b o e n hb hx => ?_, I.base.free, fun b o e hx => ?_, I.base.tups, I.base.frzs, I.base.tbls⟩, ⟨m, hn.sameBut hs (Ne.symm (cne x c hc)), fun j y v' e1 e2 e3 => ?_⟩, fun y c' e => ?_, I.free, I.freeC, fun p hp => ?_, tracked ⟨oc, hoc, I.freeC x c hc⟩ hs, by simpa using I.len⟩ ⟨c, hs, .inr hc⟩
    · exact (hs.2 b (Nat.ne_of_lt (Nat.lt_of_lt_of_le (Heap.lt_size e) (I.ok.cab x c hfn hc)))).trans (I.base.keep b o e n hb hx)
    · obtain ⟨sl, e1⟩ := I.base.slot b o e n hb hx
      exact ⟨sl, (hs.2 b (Nat.ne_of_lt (Nat.lt_of_lt_of_le (Heap.lt_size e) (I.ok.cab x c hfn hc)))).trans e1⟩
    · obtain ⟨o', e1⟩ := I.base.there b o e hx
      exact ⟨o', (hs.2 b (Nat.ne_of_lt (Nat.lt_of_lt_of_le (Heap.lt_size e) (I.ok.cab x c hfn hc)))).trans e1⟩
    · by_cases hj : j = i
      · subst hj
        rw [hi] at e1; cases e1
        rw [List.getElem?_set_self hiσ] at e2
        cases e2
        exact ⟨u, r, .inr ⟨.inl hk, c, hc, hc'⟩⟩
      · rw [List.getElem?_set_ne (Ne.symm hj)] at e2
        obtain ⟨u', r', q⟩ := hl j y v' e1 e2 e3
        refine ⟨u', r', ?_⟩
        rcases q with q | ⟨k, c', e, z'⟩
        · exact .inl q
        · refine .inr ⟨k, c', e, z'.sameBut hs ?_⟩
          rintro rfl
          exact hj (nodup_ix hN e1 (I.ok.inj _ _ _ e hc ▸ hi))
    · by_cases hcc : c' = c
      · subst hcc; exact ⟨_, hc'⟩
      · obtain ⟨w2, z2⟩ := I.cell y c' e
        exact ⟨w2, z2.sameBut hs hcc⟩
    · obtain ⟨e, n, ne, nf, d⟩ := I.pin p hp
      refine ⟨(hs.2 p.1 ?_).trans e, n, ne, nf, d⟩
      intro q
      rw [q, hoc] at e
      have q' : oc = p.2 := Option.some.inj e
      exact d w' (by rw [← q']; exact hocd)
theorem store_ok {M : Model} {A : Around} {E : Value → Shared → Prop} {i : Nat} {x : Str} {v : V} {u : Value} {Q : Unit → Shared → Prop} (I : Inv X pins σ H s) (hN : X.N.Nodup) (hi : X.N[i]? = some x) (hx : Loc X.env.scope x) (r : RelV v u)
    (h : ∀ s', Inv X pins (σ.set i (some v)) H s' → Q () s') (hf : X.fn x = true ∨ X.env.scope.names.lookup x = some .local := by first | exact .inl rfl | exact .inr rfl | assumption) : wpAny M A (storeName X.env x u) Q E s :=
  store_ok2 I hN hi hx r (fun s' I' _ => h s' I') hf
/-- behind a call or a block, the state as it is -/
theorem Inv.call' {s' : Shared} {ch : List Addr} (I : Inv X pins σ H s) (ho : s'.os = s.os) (u : Un (frs X.stack) ch H H' s.heap s'.heap) (hok : HOk X.prog X.w H' s'.heap) (hg : AllBare s'.gens)
    (hch : ∀ b ∈ ch, (b ∈ X.ex ∨ X.s₀.heap.objs.size ≤ b) ∧ b ≠ X.env.locals ∧ (∀ x c, X.env.cells.lookup x = some c → c ≠ b) ∧ ∀ p ∈ X.pn ++ pins, p.1 ≠ b) : Inv X pins σ H' s' := by
  obtain ⟨h', g', d', t', o'⟩ := s'
  have e : o' = s.os := ho
  subst e
  exact I.call (g' := g') (t' := t') (d' := d') u hok hg hch
end

/-! ### the judgements -/
/-- an exception: its class, its own dict's address (where it has one), the abstract heap behind it -/
abbrev XK := Value → Option Addr → Hp → Prop
abbrev St := List (Option V)
abbrev VK := V → Hp → Prop
/-- an expression's reading; a test's; an argument list's -/
abbrev TE := St → Hp → VK → Prop
abbrev TT := St → Hp → (Bool → Hp → Prop) → Prop
abbrev TA := St → Hp → (List V → Hp → Prop) → Prop
/-- what is wanted behind a statement -/
structure Ends where
  nx : St → Hp → Prop
  rt : VK
  bk : St → Hp → Prop := fun _ _ => False
  ct : St → Hp → Prop := fun _ _ => False
abbrev TS := Ends → St → Hp → Prop

def EP (X : Cx) (pins : List (Addr × Obj)) (σ : St) (Q : VK) (u : Value) (s' : Shared) : Prop := ∃ v H', Inv X pins σ H' s' ∧ RelV v u ∧ Q v H'
def TP (X : Cx) (pins : List (Addr × Obj)) (σ : St) (Q : Bool → Hp → Prop) (b : Bool) (s' : Shared) : Prop := ∃ H', Inv X pins σ H' s' ∧ Q b H'
def AP (X : Cx) (pins : List (Addr × Obj)) (σ : St) (Q : List V → Hp → Prop) (us : List Value) (s' : Shared) : Prop := ∃ vs H', Inv X pins σ H' s' ∧ Vals vs us ∧ Q vs H'
def SP (X : Cx) (pins : List (Addr × Obj)) (D : Ends) (f : Flow) (s' : Shared) : Prop :=
  match f with
  | .next => ∃ σ' H', Inv X pins σ' H' s' ∧ D.nx σ' H'
  | .brk => ∃ σ' H', Inv X pins σ' H' s' ∧ D.bk σ' H'
  | .cont => ∃ σ' H', Inv X pins σ' H' s' ∧ D.ct σ' H'
  | .ret u => ∃ v σ' H', Inv X pins σ' H' s' ∧ RelV v u ∧ D.rt v H'

def PE (X : Cx) (e : Expr) (t : TE) : Prop :=
  ∀ (pins : List (Addr × Obj)) (s : Shared) (σ : St) (H : Hp) (Q : VK), Inv X pins σ H s → t σ H Q → wpAny (model X.prog X.w) X.A (eval e X.env) (EP X pins σ Q) X.xe s
def PT (X : Cx) (e : Expr) (t : TT) : Prop :=
  ∀ (pins : List (Addr × Obj)) (s : Shared) (σ : St) (H : Hp) (Q : Bool → Hp → Prop), Inv X pins σ H s → t σ H Q → wpAny (model X.prog X.w) X.A (isTrue e X.env (eval e X.env)) (TP X pins σ Q) X.xe s
/-- a test whatever its 'whole' is (and, or) -/
def PW (X : Cx) (e : Expr) (t : TT) : Prop :=
  ∀ (whole : Sem Value) (pins : List (Addr × Obj)) (s : Shared) (σ : St) (H : Hp) (Q : Bool → Hp → Prop), Inv X pins σ H s → t σ H Q → wpAny (model X.prog X.w) X.A (isTrue e X.env whole) (TP X pins σ Q) X.xe s
theorem PW.pt {X : Cx} {e : Expr} {t : TT} (h : PW X e t) : PT X e t := h _
/-- an argument list (no star), from the left -/
def PA (X : Cx) (es : List Expr) (t : TA) : Prop :=
  ∀ (pos : Pos) (pins : List (Addr × Obj)) (s : Shared) (σ : St) (H : Hp) (Q : List V → Hp → Prop), Inv X pins σ H s → t σ H Q → wpAny (model X.prog X.w) X.A (spliced (backTo pos (starEach es X.env))) (AP X pins σ Q) X.xe s
def PS (X : Cx) (st : Stmt) (t : TS) : Prop :=
  ∀ (pins : List (Addr × Obj)) (s : Shared) (σ : St) (H : Hp) (D : Ends), Inv X pins σ H s → t D σ H → wpAny (model X.prog X.w) X.A (exec st X.env) (SP X pins D) X.xe s
def PSs (X : Cx) (st : List Stmt) (t : TS) : Prop :=
  ∀ (pins : List (Addr × Obj)) (s : Shared) (σ : St) (H : Hp) (D : Ends), Inv X pins σ H s → t D σ H → wpAny (model X.prog X.w) X.A (execs st X.env) (SP X pins D) X.xe s
/-- weaken the end -/
theorem thn {α : Type} {t : Sem α} {Q Q' : α → Shared → Prop} {M : Model} {A : Around} {E : Value → Shared → Prop} {s : Shared} (h : wpAny M A t Q E s) (hQ : ∀ a s, Q a s → Q' a s) : wpAny M A t Q' E s := wpAny_mono h hQ fun _ _ x => x
end L2

namespace L2
open PySem PySem.Spec PyProof.Rows
section
variable {X : Cx}

/-- two expressions in a row -/
theorem bin {a b : Expr} {ta tb : TE} (ha : PE X a ta) (hb : PE X b tb) {pins : List (Addr × Obj)} {s : Shared} {σ : St} {H : Hp} {R : V → V → Hp → Prop} (I : Inv X pins σ H s) (h : ta σ H fun x H1 => tb σ H1 fun y H2 => R x y H2)
    {α : Type} {Q : α → Shared → Prop} {f : Value → Value → Sem α}
    (hf : ∀ v u s2 x y H2, Inv X pins σ H2 s2 → RelV x v → RelV y u → R x y H2 → wpAny (model X.prog X.w) X.A (f v u) Q X.xe s2) :
    wpAny (model X.prog X.w) X.A (eval a X.env) (fun v s₁ => wpAny (model X.prog X.w) X.A (eval b X.env) (fun u s₂ => wpAny (model X.prog X.w) X.A (f v u) Q X.xe s₂) X.xe s₁) X.xe s := by
  refine thn (ha pins s σ H _ I h) fun v s1 ⟨x, H1, I1, r1, q1⟩ => ?_
  refine thn (hb pins s1 σ H1 _ I1 q1) fun u s2 ⟨y, H2, I2, r2, q2⟩ => ?_
  exact hf v u s2 x y H2 I2 r1 r2 q2

/-! ### names and constants -/
def tVar (i : Nat) : TE := fun σ H Q => ∃ v, σ[i]? = some (some v) ∧ Q v H
def tC (v : V) : TE := fun _ H Q => Q v H
theorem pe_var {i : Nat} {x : Str} {pos : Pos} (hN : X.N[i]? = some x) (hv : Vis X.env.scope x) (hd : (x == ("__debug__" : Str)) = false := by decide) (hcd : (x == ("__classdict__" : Str)) = false := by decide) : PE X (.Name x pos) (tVar i) := by
  intro pins s σ H Q I h
  obtain ⟨v, e, h⟩ := h
  obtain ⟨m, hn, hl⟩ := I.loc
  obtain ⟨u, r, l⟩ := hl i x v hN e hv
  have fin : EP X pins σ Q u s := ⟨v, H, I, r, h⟩
  rcases l with ⟨hk, hm⟩ | ⟨hk, c, hc, hcell⟩
  · exact wpAny_Name (wpAny_loadName_local I.ok.kind hk hn hm fin) hd
  · rcases hk with hk | hk
    · exact wpAny_Name (wpAny_loadName_cell I.ok.kind hk hc hcell fin) hd
    · exact wpAny_Name (wpAny_loadName_free I.ok.kind hk hc hcell fin hcd) hd
theorem pe_int {i j pos} : PE X (.Constant (.int i) j pos) (tC (.int i)) := fun _ _ _ H _ I h => wpAny_Constant_int ⟨.int i, H, I.tok _, ⟨_, rfl⟩, h⟩
theorem pe_bl {b j pos} : PE X (.Constant (.bool b) j pos) (tC (.bl b)) := fun _ _ _ H _ I h => Constant_bool ⟨.bl b, H, I, rfl, h⟩
theorem pe_non {j pos} : PE X (.Constant .none j pos) (tC .non) := fun _ _ _ H _ I h => Constant_none ⟨.non, H, I, rfl, h⟩
theorem pe_str {x j pos} : PE X (.Constant (.str x) j pos) (tC (.str x)) := fun _ _ _ H _ I h => Calls.Constant_str ⟨.str x, H, I.tok _, ⟨_, rfl⟩, h⟩

/-- a global name of the def -/
def Gl (X : Cx) (x : Str) : Prop := X.env.kindOf x = some .globalImplicit
theorem ld_glob {E : Value → Shared → Prop} {pins : List (Addr × Obj)} {s : Shared} {σ : St} {H : Hp} {x : Str} {u : Value} {pos : Pos} {Q : Value → Shared → Prop} (I : Inv X pins σ H s) (hg : Gl X x) (hm : X.mg x = some u) (h : Q u s)
    (hd : (x == ("__debug__" : Str)) = false := by decide) : wpAny (model X.prog X.w) X.A (eval (.Name x pos) X.env) Q E s :=
  Calls.Name_function_global I.ok.kind hg (Calls.loadGlobal_global (by rw [I.ok.glob]; exact I.mod.glob.keeps I.bk) hm h) hd
theorem ld_blt {E : Value → Shared → Prop} {pins : List (Addr × Obj)} {s : Shared} {σ : St} {H : Hp} {x : Str} {u : Value} {pos : Pos} {Q : Value → Shared → Prop} (I : Inv X pins σ H s) (hg : Gl X x) (hm : X.mg x = none) (hv : bootBuiltins x = some u) (h : Q u s)
    (hn : x ≠ "__name__" := by decide) (hd : (x == ("__debug__" : Str)) = false := by decide) : wpAny (model X.prog X.w) X.A (eval (.Name x pos) X.env) Q E s := by
  obtain ⟨mb, h1, h2⟩ := I.mod.blt
  exact Calls.Name_function_global I.ok.kind hg (Calls.loadGlobal_builtin (by rw [I.ok.glob]; exact I.mod.glob.keeps I.bk) hm (by rw [I.ok.blt]; exact h1.keeps I.bk) ((h2 x hn).trans hv) h) hd
/-- a module's constant, a class, a function, as a value -/
theorem pe_glob {x : Str} {v : V} {u : Value} {pos : Pos} (hg : Gl X x) (hm : X.mg x = some u) (r : RelV v u) (hd : (x == ("__debug__" : Str)) = false := by decide) : PE X (.Name x pos) (tC v) :=
  fun _ _ _ H _ I h => ld_glob I hg hm ⟨v, H, I, r, h⟩ hd
theorem pe_bltn {x : Str} {v : V} {u : Value} {pos : Pos} (hg : Gl X x) (hm : X.mg x = none) (hv : bootBuiltins x = some u) (r : RelV v u) (hn : x ≠ "__name__" := by decide) (hd : (x == ("__debug__" : Str)) = false := by decide) : PE X (.Name x pos) (tC v) :=
  fun _ _ _ H _ I h => ld_blt I hg hm hv ⟨v, H, I, r, h⟩ hn hd

/-! ### arithmetic -/
/-- two ints -/
def t2I (ta tb : TE) (k : Int → Int → Hp → Prop) : St → Hp → Prop := fun σ H => ta σ H fun x H1 => tb σ H1 fun y H2 => ∃ i j, x = .int i ∧ y = .int j ∧ k i j H2
def tAdd (ta tb : TE) : TE := fun σ H Q => t2I ta tb (fun i j H2 => Q (.int (i + j)) H2) σ H
def tSub (ta tb : TE) : TE := fun σ H Q => t2I ta tb (fun i j H2 => Q (.int (i - j)) H2) σ H
/-- the left factor below 2^64 -/
def tMul (ta tb : TE) : TE := fun σ H Q => t2I ta tb (fun i j H2 => (-(2 ^ 64) < i ∧ i < 2 ^ 64) ∧ Q (.int (i * j)) H2) σ H
variable {a b : Expr} {ta tb : TE} {pos : Pos}
theorem pe_add (ha : PE X a ta) (hb : PE X b tb) : PE X (.BinOp a .Add b pos) (tAdd ta tb) := by
  intro pins s σ H Q I h
  refine wpAny_BinOp (bin ha hb I h fun v u s2 x y H2 I2 rx ry q => ?_)
  obtain ⟨i, j, rfl, rfl, q⟩ := q
  obtain ⟨t, rfl⟩ := rx
  obtain ⟨t', rfl⟩ := ry
  exact add_int ⟨.int _, H2, I2.tok _, ⟨_, rfl⟩, q⟩
theorem pe_sub (ha : PE X a ta) (hb : PE X b tb) : PE X (.BinOp a .Sub b pos) (tSub ta tb) := by
  intro pins s σ H Q I h
  refine wpAny_BinOp (bin ha hb I h fun v u s2 x y H2 I2 rx ry q => ?_)
  obtain ⟨i, j, rfl, rfl, q⟩ := q
  obtain ⟨t, rfl⟩ := rx
  obtain ⟨t', rfl⟩ := ry
  exact sub_int ⟨.int _, H2, I2.tok _, ⟨_, rfl⟩, q⟩
theorem pe_mul (ha : PE X a ta) (hb : PE X b tb) : PE X (.BinOp a .Mult b pos) (tMul ta tb) := by
  intro pins s σ H Q I h
  refine wpAny_BinOp (bin ha hb I h fun v u s2 x y H2 I2 rx ry q => ?_)
  obtain ⟨i, j, rfl, rfl, ⟨q1, q2⟩, q⟩ := q
  obtain ⟨t, rfl⟩ := rx
  obtain ⟨t', rfl⟩ := ry
  exact mul_int ⟨.int _, H2, I2.tok _, ⟨_, rfl⟩, q⟩ (.of_left (intBits_le_64 q1 q2))

/-! ### comparisons -/
def PC (X : Cx) (op : CmpOp) (a b : Expr) (t : TE) : Prop :=
  ∀ (pins : List (Addr × Obj)) (s : Shared) (σ : St) (H : Hp) (Q : VK), Inv X pins σ H s → t σ H Q →
    wpAny (model X.prog X.w) X.A (eval a X.env) (fun v s₁ => wpAny (model X.prog X.w) X.A (eval b X.env) (fun u s₂ => wpAny (model X.prog X.w) X.A (compareOp op v u) (EP X pins σ Q) X.xe s₂) X.xe s₁) X.xe s
theorem nobehind (b : Expr) {op : CmpOp} (h : op ≠ .In) (h2 : op ≠ .NotIn) : behindInMarks op b = false := by
  have e1 : (op == CmpOp.In) = false := by cases op <;> first | rfl | exact absurd rfl h
  have e2 : (op == CmpOp.NotIn) = false := by cases op <;> first | rfl | exact absurd rfl h2
  cases b <;> simp [behindInMarks, e1, e2]
def tCmp (p : Int → Int → Bool) (ta tb : TE) : TE := fun σ H Q => t2I ta tb (fun i j H2 => Q (.bl (p i j)) H2) σ H
abbrev tLt : TE → TE → TE := tCmp fun i j => decide (i < j)
abbrev tLe : TE → TE → TE := tCmp fun i j => decide (i ≤ j)
abbrev tGt : TE → TE → TE := tCmp fun i j => decide (j < i)
abbrev tGe : TE → TE → TE := tCmp fun i j => decide (j ≤ i)
abbrev tEqI : TE → TE → TE := tCmp fun i j => decide (i = j)
abbrev tNeI : TE → TE → TE := tCmp fun i j => !decide (i = j)
/-- a comparison of two ints, by its rule -/
theorem pc_int {op : CmpOp} {p : Int → Int → Bool} (ha : PE X a ta) (hb : PE X b tb)
    (rule : ∀ (i j : Int) (t u : Tok) (Q : Value → Shared → Prop) (s : Shared), Q (.bool (p i j)) s → wpAny (model X.prog X.w) X.A (compareOp op (.int i t) (.int j u)) Q X.xe s) : PC X op a b (tCmp p ta tb) := by
  intro pins s σ H Q I h
  refine bin ha hb I h fun v u s2 x y H2 I2 rx ry q => ?_
  obtain ⟨i, j, rfl, rfl, q⟩ := q
  obtain ⟨t, rfl⟩ := rx
  obtain ⟨t', rfl⟩ := ry
  exact rule i j t t' _ s2 ⟨.bl _, H2, I2, rfl, q⟩
theorem pc_lt (ha : PE X a ta) (hb : PE X b tb) : PC X .Lt a b (tLt ta tb) := pc_int ha hb fun _ _ _ _ _ _ h => lt_int h
theorem pc_le (ha : PE X a ta) (hb : PE X b tb) : PC X .LtE a b (tLe ta tb) := pc_int ha hb fun _ _ _ _ _ _ h => le_int h
theorem pc_gt (ha : PE X a ta) (hb : PE X b tb) : PC X .Gt a b (tGt ta tb) := pc_int ha hb fun _ _ _ _ _ _ h => gt_int h
theorem pc_ge (ha : PE X a ta) (hb : PE X b tb) : PC X .GtE a b (tGe ta tb) := pc_int ha hb fun _ _ _ _ _ _ h => ge_int h
theorem pc_eqI (ha : PE X a ta) (hb : PE X b tb) : PC X .Eq a b (tEqI ta tb) := pc_int ha hb fun _ _ _ _ _ _ h => eq_int (by rw [Bool.beq_eq_decide_eq]; exact h)
theorem pc_neI (ha : PE X a ta) (hb : PE X b tb) : PC X .NotEq a b (tNeI ta tb) := pc_int ha hb fun _ _ _ _ _ _ h => ne_int (by rw [bne, Bool.beq_eq_decide_eq]; exact h)
/-- is None -/
def tIsN (ta : TE) : TE := fun σ H Q => ta σ H fun x H1 => Q (.bl (decide (x = .non))) H1
def tNotN (ta : TE) : TE := fun σ H Q => ta σ H fun x H1 => Q (.bl (!decide (x = .non))) H1
theorem RelV.none_iff {x : V} {v : Value} (r : RelV x v) : (v == Value.none) = decide (x = .non) := by
  cases x with
  | non => cases r; rfl
  | bl _ => cases r; rfl
  | int _ => obtain ⟨t, rfl⟩ := r; rfl
  | str _ => obtain ⟨t, rfl⟩ := r; rfl
  | byt _ => obtain ⟨t, rfl⟩ := r; rfl
  | flt _ => obtain ⟨t, rfl⟩ := r; rfl
  | ref _ => cases r; rfl
  | ty _ => cases r; rfl
theorem pc_isN {j pos'} (ha : PE X a ta) : PC X .Is a (.Constant .none j pos') (tIsN ta) := by
  intro pins s σ H Q I h
  refine thn (ha pins s σ H _ I h) fun v s1 ⟨x, H1, I1, r1, q1⟩ => ?_
  exact Constant_none (is_none_gen ⟨.bl _, H1, I1, by rw [r1.none_iff]; rfl, q1⟩)
theorem pc_notN {j pos'} (ha : PE X a ta) : PC X .IsNot a (.Constant .none j pos') (tNotN ta) := by
  intro pins s σ H Q I h
  refine thn (ha pins s σ H _ I h) fun v s1 ⟨x, H1, I1, r1, q1⟩ => ?_
  exact Constant_none (isnot_none_gen ⟨.bl _, H1, I1, by rw [r1.none_iff]; rfl, q1⟩)
/-- a comparison as a value, as a test -/
def tB (t : TE) : TT := fun σ H Q => t σ H fun x H1 => ∃ c, x = .bl c ∧ Q c H1
theorem pe_cmp {op : CmpOp} {t : TE} (h : PC X op a b t) (h1 : behindInMarks op b = false := by first | exact nobehind _ (by decide) (by decide) | rfl) : PE X (.Compare a [op] [b] pos) t := fun pins s σ H Q I hw => wpAny_Compare1 (h pins s σ H Q I hw) h1
theorem pt_cmp {op : CmpOp} {t : TE} (h : PC X op a b t) (h1 : behindInMarks op b = false := by first | exact nobehind _ (by decide) (by decide) | rfl) : PT X (.Compare a [op] [b] pos) (tB t) := by
  intro pins s σ H Q I hw
  refine wpAny_isTrue_Compare1 (thn (h pins s σ H _ I hw) fun v s1 h1 => thn h1 fun u s2 h2 => thn h2 fun c s3 ⟨x, H1, I1, r1, q1⟩ => ?_) h1
  obtain ⟨d, rfl, q⟩ := q1
  cases r1
  exact wpAny_truthy_bool ⟨H1, I1, q⟩
/-- an expression whose value is a bool, as a test -/
theorem pt_val {e : Expr} {t : TE} (h : PE X e t) (he : ∀ whole, isTrue e X.env whole = (do let v ← whole; standAt e.pos; holding [v] (truthy v)) := by intro _; rfl) : PT X e (tB t) := by
  intro pins s σ H Q I hw
  refine isTrue_plain (thn (h pins s σ H _ I hw) fun v s1 ⟨x, H1, I1, r1, q1⟩ => ?_) (he _)
  obtain ⟨d, rfl, q⟩ := q1
  cases r1
  exact wpAny_truthy_bool ⟨H1, I1, q⟩

/-! ### and, or, not -/
variable {tA tB' : TT} {rest : List Expr}
def tAnd (t u : TT) : TT := fun σ H Q => t σ H fun c H1 => if c = true then u σ H1 Q else Q false H1
def tOr (t u : TT) : TT := fun σ H Q => t σ H fun c H1 => if c = true then Q true H1 else u σ H1 Q
def tNot (t : TT) : TT := fun σ H Q => t σ H fun c H1 => Q (!c) H1
theorem pw_and1 (ha : PT X a tA) : PW X (.BoolOp .And [a] pos) tA := by
  intro wh pins s σ H Q I h
  refine isTrue_and (thn (ha pins s σ H Q I h) fun c s1 e => ?_)
  cases c with
  | true => exact isTrue_and_nil e
  | false => exact e
theorem pw_or1 (ha : PT X a tA) : PW X (.BoolOp .Or [a] pos) tA := by
  intro wh pins s σ H Q I h
  refine isTrue_or (thn (ha pins s σ H Q I h) fun c s1 e => ?_)
  cases c with
  | false => exact isTrue_or_nil e
  | true => exact e
theorem pw_and (ha : PT X a tA) (hb : PW X (.BoolOp .And (b :: rest) pos) tB') : PW X (.BoolOp .And (a :: b :: rest) pos) (tAnd tA tB') := by
  intro wh pins s σ H Q I h
  refine isTrue_and (thn (ha pins s σ H _ I h) fun c s1 ⟨H1, I1, q1⟩ => ?_)
  cases c with
  | true => exact hb wh pins s1 σ H1 Q I1 q1
  | false => exact ⟨H1, I1, q1⟩
theorem pw_or (ha : PT X a tA) (hb : PW X (.BoolOp .Or (b :: rest) pos) tB') : PW X (.BoolOp .Or (a :: b :: rest) pos) (tOr tA tB') := by
  intro wh pins s σ H Q I h
  refine isTrue_or (thn (ha pins s σ H _ I h) fun c s1 ⟨H1, I1, q1⟩ => ?_)
  cases c with
  | true => exact ⟨H1, I1, q1⟩
  | false => exact hb wh pins s1 σ H1 Q I1 q1
theorem pt_not (ha : PT X a tA) : PT X (.UnaryOp .Not a pos) (tNot tA) := by
  intro pins s σ H Q I h
  exact isTrue_not (ha pins s σ H (fun c H1 => Q (!c) H1) I h)
/-- .. as values (bools) -/
def tAndV (ta tb : TE) : TE := fun σ H Q => ta σ H fun x H1 => ∃ c, x = .bl c ∧ if c = true then tb σ H1 Q else Q (.bl false) H1
def tOrV (ta tb : TE) : TE := fun σ H Q => ta σ H fun x H1 => ∃ c, x = .bl c ∧ if c = true then Q (.bl true) H1 else tb σ H1 Q
def tNotV (ta : TE) : TE := fun σ H Q => ta σ H fun x H1 => ∃ c, x = .bl c ∧ Q (.bl (!c)) H1
theorem pe_one {op} {t : TE} (h : PE X a t) : PE X (.BoolOp op [a] pos) t := fun pins s σ H Q I hw => BoolOp_one (h pins s σ H Q I hw)
theorem pe_and (ha : PE X a ta) (hb : PE X (.BoolOp .And (b :: rest) pos) tb) : PE X (.BoolOp .And (a :: b :: rest) pos) (tAndV ta tb) := by
  intro pins s σ H Q I h
  refine BoolOp_and (thn (ha pins s σ H _ I h) fun v s1 ⟨x, H1, I1, r1, q1⟩ => ?_)
  obtain ⟨c, rfl, q1⟩ := q1
  cases r1
  refine wpAny_truthy_bool ?_
  cases c with
  | true => exact hb pins s1 σ H1 Q I1 q1
  | false => exact ⟨.bl false, H1, I1, rfl, q1⟩
theorem pe_or (ha : PE X a ta) (hb : PE X (.BoolOp .Or (b :: rest) pos) tb) : PE X (.BoolOp .Or (a :: b :: rest) pos) (tOrV ta tb) := by
  intro pins s σ H Q I h
  refine BoolOp_or (thn (ha pins s σ H _ I h) fun v s1 ⟨x, H1, I1, r1, q1⟩ => ?_)
  obtain ⟨c, rfl, q1⟩ := q1
  cases r1
  refine wpAny_truthy_bool ?_
  cases c with
  | false => exact hb pins s1 σ H1 Q I1 q1
  | true => exact ⟨.bl true, H1, I1, rfl, q1⟩
theorem pe_not (ha : PE X a ta) : PE X (.UnaryOp .Not a pos) (tNotV ta) := by
  intro pins s σ H Q I h
  refine UnaryOp_ (thn (ha pins s σ H _ I h) fun v s1 ⟨x, H1, I1, r1, q1⟩ => ?_)
  obtain ⟨c, rfl, q1⟩ := q1
  cases r1
  exact not_of (wpAny_truthy_bool ⟨.bl (!c), H1, I1, rfl, q1⟩)
/-- a if t else b -/
def tIf (t : TT) (ta tb : TE) : TE := fun σ H Q => t σ H fun c H1 => if c = true then ta σ H1 Q else tb σ H1 Q
theorem pe_ifExp {c : Expr} (hc : PT X c tA) (ha : PE X a ta) (hb : PE X b tb) : PE X (.IfExp c a b pos) (tIf tA ta tb) := by
  intro pins s σ H Q I h
  refine wpAny_IfExp (thn (hc pins s σ H _ I h) fun d s1 ⟨H1, I1, q1⟩ => ?_)
  cases d with
  | true => exact ha pins s1 σ H1 Q I1 q1
  | false => exact hb pins s1 σ H1 Q I1 q1
end
end L2

namespace L2
open PySem PySem.Spec PyProof.Rows

/-! ### a list, a tuple that is read: tracked, frozen, or an object of the module -/
def SqL (K : PySem.W.Frag) (H : Hp) (a : Addr) (xs : List V) : Prop :=
  Rd H a (.lst xs) ∨
    ∃ (o : Obj) (its : Array Value) (n : Nat), K.lookup a = some o ∧ o.cls = .type "list" ∧ o.dict = none ∧ o.data = .seq its n ∧ its.size ≤ sizeLine ∧ Vals xs its.toList
def SqT (K : PySem.W.Frag) (H : Hp) (a : Addr) (xs : List V) : Prop :=
  Rd H a (.tup xs) ∨
    ∃ (o : Obj) (its : Array Value) (n : Nat), K.lookup a = some o ∧ o.cls = .type "tuple" ∧ o.data = .seq its n ∧ its.size ≤ sizeLine ∧ Vals xs its.toList
def absV : Value → Option V
  | .none => some .non
  | .bool b => some (.bl b)
  | .int i _ => some (.int i)
  | .str x _ => some (.str x)
  | .bytes b _ => some (.byt b)
  | .float b _ => some (.flt b)
  | .ref a => some (.ref a)
  | .type n => some (.ty n)
  | _ => none
theorem RelV.abs {x : V} {u : Value} (r : RelV x u) : absV u = some x := by
  cases x with
  | non => cases r; rfl
  | bl _ => cases r; rfl
  | int _ => obtain ⟨t, rfl⟩ := r; rfl
  | str _ => obtain ⟨t, rfl⟩ := r; rfl
  | byt _ => obtain ⟨t, rfl⟩ := r; rfl
  | flt _ => obtain ⟨t, rfl⟩ := r; rfl
  | ref _ => cases r; rfl
  | ty _ => cases r; rfl
theorem RelV.inj {x y : V} {u : Value} (r : RelV x u) (q : RelV y u) : x = y := Option.some.inj (r.abs.symm.trans q.abs)
theorem Vals.inj : ∀ {xs ys : List V} {us : List Value}, Vals xs us → Vals ys us → xs = ys
  | _, _, _, .nil, .nil => rfl
  | _, _, _, .cons r t, .cons r' t' => by rw [r.inj r', Vals.inj t t']
section
variable {X : Cx} {pins : List (Addr × Obj)} {σ : St} {H : Hp} {s : Shared} {a : Addr} {xs ys : List V}
theorem SqL.of {K : PySem.W.Frag} (h : H a = some (.lst xs)) : SqL K H a xs := .inl (.inl h)
theorem SqT.of {K : PySem.W.Frag} (h : H a = some (.tup xs)) : SqT K H a xs := .inl (.inl h)
theorem Inv.list (I : Inv X pins σ H s) (h : SqL X.K H a xs) : ∃ its : List Value, Vals xs its ∧ PlainL s.heap a its.toArray ∧ xs.length ≤ sizeLine := by
  rcases h with h | ⟨o, its, n, hk, hc, hd, hs, hz, r⟩
  · obtain ⟨z, its, n, r, e⟩ := h.ok I.hok
    exact ⟨its, r, ⟨_, n, e, rfl, rfl, rfl⟩, z⟩
  · refine ⟨its.toList, r, ⟨o, n, I.kIn a o hk, hc, hd, by simpa using hs⟩, ?_⟩
    have e := r.length
    simp only [Array.length_toList] at e
    omega
theorem Inv.tuple (I : Inv X pins σ H s) (h : SqT X.K H a xs) : ∃ its : List Value, Vals xs its ∧ IsTup s.heap a its.toArray ∧ xs.length ≤ sizeLine := by
  rcases h with h | ⟨o, its, n, hk, hc, hs, hz, r⟩
  · obtain ⟨z, its, r, p⟩ := h.ok I.hok
    exact ⟨its, r, p.tup, z⟩
  · refine ⟨its.toList, r, ⟨o, I.kIn a o hk, hc, n, by simpa using hs⟩, ?_⟩
    have e := r.length
    simp only [Array.length_toList] at e
    omega
theorem Inv.list_inj (I : Inv X pins σ H s) (h : SqL X.K H a xs) (h' : SqL X.K H a ys) : xs = ys := by
  obtain ⟨its, r, ⟨o, n, e, _, _, d⟩, _⟩ := I.list h
  obtain ⟨its', r', ⟨o', n', e', _, _, d'⟩, _⟩ := I.list h'
  rw [e] at e'; cases e'
  rw [d] at d'
  injection d' with d1 _
  have : its = its' := by simpa using congrArg Array.toList d1
  subst this
  exact r.inj r'
theorem Inv.tuple_inj (I : Inv X pins σ H s) (h : SqT X.K H a xs) (h' : SqT X.K H a ys) : xs = ys := by
  obtain ⟨its, r, ⟨o, e, _, n, d⟩, _⟩ := I.tuple h
  obtain ⟨its', r', ⟨o', e', _, n', d'⟩, _⟩ := I.tuple h'
  rw [e] at e'; cases e'
  rw [d] at d'
  injection d' with d1 _
  have : its = its' := by simpa using congrArg Array.toList d1
  subst this
  exact r.inj r'
end

/-! ### another wish about exceptions -/
abbrev Cx.wish (X : Cx) (E : Value → Shared → Prop) : Cx := { X with xe := E }
/-- no exception leaves -/
abbrev Cx.nox (X : Cx) : Cx := X.wish fun _ _ => False
theorem Cx.Ok.wish {X : Cx} (ok : X.Ok) (E : Value → Shared → Prop) : (X.wish E).Ok :=
  ⟨ok.mod, ok.kind, ok.glob, ok.blt, ok.above, ok.inj, ok.has, ok.cab, ok.hd, ok.frames, ok.stk, ok.exf, ok.bs, ok.bsz, ok.noex, ok.exfs, ok.funs, ok.frf⟩
theorem Cx.Ok.unwish {X : Cx} {E : Value → Shared → Prop} (ok : (X.wish E).Ok) : X.Ok :=
  ⟨ok.mod, ok.kind, ok.glob, ok.blt, ok.above, ok.inj, ok.has, ok.cab, ok.hd, ok.frames, ok.stk, ok.exf, ok.bs, ok.bsz, ok.noex, ok.exfs, ok.funs, ok.frf⟩
section
variable {X : Cx} {pins : List (Addr × Obj)} {σ : St} {H : Hp} {s : Shared} {E : Value → Shared → Prop}
theorem Inv.wish (I : Inv X pins σ H s) (E : Value → Shared → Prop) : Inv (X.wish E) pins σ H s := ⟨I.ok.wish E, I.os, I.bare, I.base, I.loc, I.cell, I.free, I.freeC, I.pin, I.hok, I.len⟩
theorem Inv.unwish (I : Inv (X.wish E) pins σ H s) : Inv X pins σ H s := ⟨I.ok.unwish, I.os, I.bare, I.base, I.loc, I.cell, I.free, I.freeC, I.pin, I.hok, I.len⟩
theorem SP.unwish {D : Ends} {f : Flow} {s' : Shared} (h : SP (X.wish E) pins D f s') : SP X pins D f s' := by
  cases f with
  | next => obtain ⟨σ', H', I, q⟩ := h; exact ⟨σ', H', I.unwish, q⟩
  | brk => obtain ⟨σ', H', I, q⟩ := h; exact ⟨σ', H', I.unwish, q⟩
  | cont => obtain ⟨σ', H', I, q⟩ := h; exact ⟨σ', H', I.unwish, q⟩
  | ret u => obtain ⟨v, σ', H', I, r, q⟩ := h; exact ⟨v, σ', H', I.unwish, r, q⟩
theorem PE.nox {e : Expr} {t : TE} (h : PE X.nox e t) : PE X e t := fun pins s σ H Q I hw =>
  wpAny_mono (h pins s σ H Q (I.wish _) hw) (fun _ _ ⟨v, H', I', r, q⟩ => ⟨v, H', I'.unwish, r, q⟩) fun _ _ z => False.elim z
theorem PT.nox {e : Expr} {t : TT} (h : PT X.nox e t) : PT X e t := fun pins s σ H Q I hw =>
  wpAny_mono (h pins s σ H Q (I.wish _) hw) (fun _ _ ⟨H', I', q⟩ => ⟨H', I'.unwish, q⟩) fun _ _ z => False.elim z
theorem PSs.nox {st : List Stmt} {t : TS} (h : PSs X.nox st t) : PSs X st t := fun pins s σ H D I hw =>
  wpAny_mono (h pins s σ H D (I.wish _) hw) (fun _ _ q => q.unwish) fun _ _ z => False.elim z
end

/-! ### blocks and small statements -/
section
variable {X : Cx} {st : Stmt} {rest : List Stmt} {t u : TS} {e : Expr} {te : TE} {pos : Pos}
def tNext : TS := fun D σ H => D.nx σ H
def tSeq (t u : TS) : TS := fun D σ H => t { D with nx := u D } σ H
theorem pss_nil : PSs X [] tNext := fun _ _ σ H _ I h => wpAny_execs_nil ⟨σ, H, I, h⟩
theorem pss_cons (h1 : PS X st t) (h2 : PSs X rest u) : PSs X (st :: rest) (tSeq t u) := by
  intro pins s σ H D I h
  refine wpAny_execs_cons (thn (h1 pins s σ H { D with nx := u D } I h) fun f s1 q => ?_)
  cases f with
  | next =>
    obtain ⟨σ', H', I', q⟩ := q
    exact h2 pins s1 σ' H' D I' q
  | ret v => exact q
  | brk => exact q
  | cont => exact q
theorem pss_one (h1 : PS X st t) : PSs X [st] t := by
  intro pins s σ H D I h
  refine wpAny_execs_cons (thn (h1 pins s σ H D I h) fun f s1 q => ?_)
  cases f with
  | next => exact wpAny_execs_nil q
  | ret v => exact q
  | brk => exact q
  | cont => exact q
def tBreak : TS := fun D σ H => D.bk σ H
def tCont : TS := fun D σ H => D.ct σ H
theorem ps_pass : PS X (.Pass pos) tNext := fun _ _ σ H _ I h => wpAny_Pass ⟨σ, H, I, h⟩
theorem ps_break : PS X (.Break pos) tBreak := fun _ _ σ H _ I h => wpAny_Break ⟨σ, H, I, h⟩
theorem ps_continue : PS X (.Continue pos) tCont := fun _ _ σ H _ I h => wpAny_Continue ⟨σ, H, I, h⟩
/-- in a def's body nothing is shown -/
theorem Inv.quiet {pins : List (Addr × Obj)} {σ : St} {H : Hp} {s : Shared} (I : Inv X pins σ H s) : interactive X.env = false := by simp [interactive, I.ok.kind]
/-- a docstring -/
theorem ps_doc {x j pos pos'} : PS X (.Expr (.Constant (.str x) j pos) pos') tNext := fun _ s σ H _ I h => wpAny_Expr (Calls.Constant_str (show SP X _ _ .next { s with toks := s.toks + 1 } from ⟨σ, H, I.tok _, h⟩)) I.quiet
/-- an expression whose value is dropped -/
def tDrop (te : TE) : TS := fun D σ H => te σ H fun _ H1 => D.nx σ H1
theorem ps_expr (he : PE X e te) (hs : swapsWith e none pos.line X.env = pure false := by rfl) : PS X (.Expr e pos) (tDrop te) := by
  intro pins s σ H D I h
  exact wpAny_Expr_any (thn (he pins s σ H _ I h) fun v s1 ⟨x, H1, I1, r1, q1⟩ => ⟨σ, H1, I1, q1⟩) I.quiet hs
def tRet (te : TE) : TS := fun D σ H => te σ H D.rt
theorem ps_ret (he : PE X e te) : PS X (.Return (some e) pos) (tRet te) := by
  intro pins s σ H D I h
  exact wpAny_Return_some (thn (he pins s σ H _ I h) fun v s1 ⟨x, H1, I1, r1, q1⟩ => ⟨x, σ, H1, I1, r1, q1⟩)
def tRetN : TS := fun D _ H => D.rt .non H
theorem ps_retN : PS X (.Return none pos) tRetN := fun _ _ σ H _ I h => wpAny_Return_none ⟨.non, σ, H, I, rfl, h⟩
def tIfS (c : TT) (t u : TS) : TS := fun D σ H => c σ H fun b H1 => if b = true then t D σ H1 else u D σ H1
theorem ps_if {c : Expr} {a b : List Stmt} {tc : TT} (hc : PT X c tc) (ha : PSs X a t) (hb : PSs X b u) : PS X (.If c a b pos) (tIfS tc t u) := by
  intro pins s σ H D I h
  refine wpAny_If (thn (hc pins s σ H _ I h) fun d s1 ⟨H1, I1, q1⟩ => ?_)
  cases d with
  | true => exact ha pins s1 σ H1 D I1 q1
  | false => exact hb pins s1 σ H1 D I1 q1
/-- code that the proof never comes to -/
def tNever : TS := fun _ _ _ => False
theorem ps_never : PS X st tNever := fun _ _ _ _ _ _ h => h.elim
theorem pss_never {sts : List Stmt} : PSs X sts tNever := fun _ _ _ _ _ _ h => h.elim
end

/-! ### targets -/
abbrev TG := V → St → Hp → (St → Hp → Prop) → Prop
abbrev TGs := List V → St → Hp → (St → Hp → Prop) → Prop
def PG (X : Cx) (target : Expr) (t : TG) : Prop :=
  ∀ (pins : List (Addr × Obj)) (s : Shared) (σ : St) (H : Hp) (v : V) (u : Value) (Q : St → Hp → Prop), Inv X pins σ H s → RelV v u → t v σ H Q →
    wpAny (model X.prog X.w) X.A (assign target X.env u) (fun _ s' => ∃ σ' H', Inv X pins σ' H' s' ∧ Q σ' H') X.xe s
/-- several targets, one after another -/
def PGs (X : Cx) (ts : List Expr) (t : TGs) : Prop :=
  ∀ (pins : List (Addr × Obj)) (s : Shared) (σ : St) (H : Hp) (vs : List V) (us : List Value) (Q : St → Hp → Prop), Inv X pins σ H s → Vals vs us → t vs σ H Q →
    wpAny (model X.prog X.w) X.A (assignInOrder ((assignEach ts X.env).map (·.2)) us) (fun _ s' => ∃ σ' H', Inv X pins σ' H' s' ∧ Q σ' H') X.xe s
/-- o[i] = v, by values -/
abbrev TSet := V → V → V → Hp → (Hp → Prop) → Prop
def PSet (X : Cx) (t : TSet) : Prop :=
  ∀ (pins : List (Addr × Obj)) (s : Shared) (σ : St) (H : Hp) (o i v : V) (ov iv u : Value) (Q : Hp → Prop), Inv X pins σ H s → RelV o ov → RelV i iv → RelV v u → t o i v H Q →
    wpAny (model X.prog X.w) X.A (setItem ov iv u) (fun _ s' => ∃ H', Inv X pins σ H' s' ∧ Q H') X.xe s
/-- a op= b, by values -/
abbrev TIp := V → V → Hp → VK → Prop
def PIp (X : Cx) (op : Operator) (t : TIp) : Prop :=
  ∀ (pins : List (Addr × Obj)) (s : Shared) (σ : St) (H : Hp) (x y : V) (v u : Value) (Q : VK), Inv X pins σ H s → RelV x v → RelV y u → t x y H Q →
    wpAny (model X.prog X.w) X.A (inplaceOp op v u) (EP X pins σ Q) X.xe s
section
variable {X : Cx} {pos : Pos}
def gName (i : Nat) : TG := fun v σ H Q => Q (σ.set i (some v)) H
theorem pg_name {i : Nat} {x : Str} (hN : X.N.Nodup) (hi : X.N[i]? = some x) (hx : Loc X.env.scope x) (hf : X.fn x = true ∨ X.env.scope.names.lookup x = some .local := by first | exact .inl rfl | exact .inr rfl | assumption) : PG X (.Name x pos) (gName i) := by
  intro pins s σ H v u Q I r h
  exact wpAny_assign_Name (store_ok I hN hi hx r (fun s' I' => ⟨_, H, I', h⟩) hf)
def gNil : TGs := fun vs σ H Q => vs = [] ∧ Q σ H
def gCons (t : TG) (u : TGs) : TGs := fun vs σ H Q => ∃ v r, vs = v :: r ∧ t v σ H fun σ' H' => u r σ' H' Q
theorem pgs_nil : PGs X [] gNil := by
  intro pins s σ H vs us Q I r h
  obtain ⟨e, h⟩ := h
  subst e
  cases r
  exact assignInOrder_nil ⟨σ, H, I, h⟩
theorem pgs_cons {e : Expr} {es : List Expr} {t : TG} {u : TGs} (h1 : PG X e t) (h2 : PGs X es u)
    (hs : (assignEach (e :: es) X.env).map (·.2) = assign e X.env :: (assignEach es X.env).map (·.2) := by rfl) : PGs X (e :: es) (gCons t u) := by
  intro pins s σ H vs us Q I r h
  obtain ⟨v, vr, e1, h⟩ := h
  subst e1
  cases r with
  | cons r rr =>
    rw [hs]
    refine assignInOrder_cons (thn (h1 pins s σ H _ _ _ I r h) fun _ s1 ⟨σ1, H1, I1, q1⟩ => ?_)
    exact h2 pins s1 σ1 H1 _ _ Q I1 rr q1
/-- (a, b, ..) = a tuple of that length -/
def gTup (K : PySem.W.Frag) (n : Nat) (t : TGs) : TG := fun v σ H Q => ∃ a xs, v = .ref a ∧ SqT K H a xs ∧ xs.length = n ∧ t xs σ H Q
theorem pg_tup {es : List Expr} {k : Nat} {t : TGs} {n : Nat} (hc : X.calm = true) (h : PGs X es t)
    (hn : (assignEach es X.env).length = n := by rfl) (hst : (assignEach es X.env).findIdx? (·.1) = none := by rfl) : PG X (.Tuple es k pos) (gTup X.K n t) := by
  intro pins s σ H v u Q I r hw
  obtain ⟨a, xs, e1, hq, hl, hw⟩ := hw
  subst e1
  cases r
  obtain ⟨its, rv, ht, hz⟩ := I.tuple hq
  refine assign_Tuple_tuple (I.ok.hd hc) ht (by simp [hn, ← hl, rv.length]) hst fun h' hx => ?_
  have I1 : Inv X pins σ H { s with heap := h' } := I.kept (t' := s.toks) fun b o e => hx b o (Nat.ne_of_lt (Heap.lt_size e)) e
  exact h pins _ σ H xs _ Q I1 (by simpa using rv) hw
/-- o[i] = .. -/
def gSub (to ti : TE) (t : TSet) : TG := fun v σ H Q => to σ H fun o H1 => ti σ H1 fun i H2 => t o i v H2 fun H3 => Q σ H3
theorem pg_sub {o i : Expr} {to ti : TE} {t : TSet} (ho : PE X o to) (hi : PE X i ti) (hs : PSet X t)
    (ha : ∀ v, assign (.Subscript o i pos) X.env v = (do
      let ov ← holding [v] (eval o X.env)
      let iv ← holding [v, ov] (eval i X.env)
      standAt pos
      holding [v, ov, iv] (setItem ov iv v)
      release [v, ov, iv] []) := by intro _; rfl) : PG X (.Subscript o i pos) (gSub to ti t) := by
  intro pins s σ H v u Q I r h
  rw [ha]
  refine wpAny_bind (wpAny_holding (thn (ho pins s σ H _ I h) fun ov s1 ⟨x, H1, I1, r1, q1⟩ => ?_))
  refine wpAny_bind (wpAny_holding (thn (hi pins s1 σ H1 _ I1 q1) fun iv s2 ⟨y, H2, I2, r2, q2⟩ => ?_))
  refine wpAny_bind (wpAny_standAt (wpAny_bind (wpAny_holding (thn (hs pins s2 σ H2 x y v ov iv u _ I2 r1 r2 r q2) fun _ s3 ⟨H3, I3, q3⟩ => ?_))))
  exact wpAny_release ⟨σ, H3, I3, q3⟩
/-- target = value -/
def tAsg (te : TE) (g : TG) : TS := fun D σ H => te σ H fun x H1 => g x σ H1 D.nx
theorem ps_asg {tg e : Expr} {te : TE} {g : TG} (he : PE X e te) (hg : PG X tg g) (hs : swapsWithSole [tg] e pos.line X.env = pure false := by rfl) (hw : swappedStores [tg] e X.env = pure none := by rfl)
    (h1 : (assignEach [tg] X.env).map (·.2) = [assign tg X.env] := by rfl) : PS X (.Assign [tg] e pos) (tAsg te g) := by
  intro pins s σ H D I h
  refine wpAny_Assign_stores (thn (he pins s σ H _ I h) fun v s1 ⟨x, H1, I1, r1, q1⟩ => ?_) hs hw
  rw [h1]
  exact thn (hg pins s1 σ H1 x v _ I1 r1 q1) fun _ s2 q => q
/-- name = value -/
theorem ps_set {i : Nat} {x : Str} {e : Expr} {te : TE} {pos' : Pos} (hN : X.N.Nodup) (hi : X.N[i]? = some x) (hx : Loc X.env.scope x) (he : PE X e te) (hs : swapsWith e (some (.Name x pos')) pos.line X.env = pure false := by rfl) (hf : X.fn x = true ∨ X.env.scope.names.lookup x = some .local := by first | exact .inl rfl | exact .inr rfl | assumption) :
    PS X (.Assign [.Name x pos'] e pos) (tAsg te (gName i)) := by
  intro pins s σ H D I h
  refine wpAny_Assign_Name (thn (he pins s σ H _ I h) fun v s1 ⟨y, H1, I1, r1, q1⟩ => ?_) hs
  exact store_ok I1 hN hi hx r1 (fun s2 I2 => ⟨_, H1, I2, q1⟩) hf
/-- a, b = x, y with plain local names: stored from the right; the pair itself is not tracked (the opening rows as in PyProof/Rows/TupAssign.lean:23) -/
def tPar (i j : Nat) (ta : TA) : TS := fun D σ H => ta σ H fun vs H1 => ∃ v w, vs = [v, w] ∧ D.nx ((σ.set i (some v)).set j (some w)) H1
theorem ps_par {i j : Nat} {x y : Str} {a b : Expr} {ta : TA} {px py pt : Pos} {kt k2 pt2} (hc : X.calm = true) (hN : X.N.Nodup) (hi : X.N[i]? = some x) (hj : X.N[j]? = some y) (hij : i ≠ j)
    (hx : X.env.scope.names.lookup x = some .local) (hy : X.env.scope.names.lookup y = some .local) (ha : PA X [a, b] ta)
    (hw : swappedStores [.Tuple [.Name x px, .Name y py] kt pt] (.Tuple [a, b] k2 pt2) X.env = pure (some [x, y]))
    (hs : swapsWithSole [.Tuple [.Name x px, .Name y py] kt pt] (.Tuple [a, b] k2 pt2) pos.line X.env = pure false := by rfl) :
    PS X (.Assign [.Tuple [.Name x px, .Name y py] kt pt] (.Tuple [a, b] k2 pt2) pos) (tPar i j ta) := by
  intro pins s σ H D I h
  rw [exec_Assign_arm]
  refine wpAny_bind (wpAny_standAt ?_)
  rw [hs]
  refine wpAny_bind (wpAny_pure ?_)
  rw [if_neg (by decide)]
  refine wpAny_bind (Tuple_ (thn (ha _ pins s σ H _ I h) fun us s1 ⟨vs, H1, I1, r1, q1⟩ => ?_))
  obtain ⟨v, w, e1, q1⟩ := q1
  subst e1
  obtain ⟨u1, u2, rfl, rv, rw'⟩ : ∃ u1 u2, us = [u1, u2] ∧ RelV v u1 ∧ RelV w u2 := by
    cases r1 with
    | cons p q =>
      cases q with
      | cons p' q' =>
        cases q'
        exact ⟨_, _, rfl, p, p'⟩
  refine wpAny_newObj_type ?_ (by show 2 ≤ sizeLine; decide)
  have I2 : Inv X pins σ H1 { s1 with heap := s1.heap.push { cls := .type "tuple", data := .seq [u1, u2].toArray } } := I1.kept (t' := s1.toks) fun b o e => Heap.get?_push_of_some _ e
  rw [hw]
  refine wpAny_bind (wpAny_pure ?_)
  show wpAny (model X.prog X.w) X.A (do rule "assign.swapped-stores"; let items ← unpackItems (.ref s1.heap.objs.size) 2 none; assignInOrder [fun v => bindName X.env y v, fun v => bindName X.env x v] items.reverse; pure Flow.next) _ _ _
  refine wpAny_bind (wpAny_rule (wpAny_bind (unpackItems_tuple (items := #[u1, u2]) (I.ok.hd hc) (IsTup.new s1.heap _) fun h' hx' => ?_)))
  have I3 := I2.kept (h' := h') (t' := s1.toks) fun b o e => hx' b o (Nat.ne_of_lt (Heap.lt_size e)) e
  show wpAny _ _ (assignInOrder [fun v => bindName X.env y v, fun v => bindName X.env x v] [u2, u1] >>= fun _ => pure Flow.next) _ _ _
  refine wpAny_bind (assignInOrder_cons (wpAny_bindName (store_ok I3 hN hj (.inl hy) rw' (fun s2 I4 => ?_) (.inr hy))))
  refine assignInOrder_cons (wpAny_bindName (store_ok I4 hN hi (.inl hx) rv (fun s3 I5 => assignInOrder_nil (wpAny_pure ?_)) (.inr hx)))
  rw [List.set_comm _ _ (Ne.symm hij)] at I5
  exact ⟨_, H1, I5, q1⟩
/-- name op= e -/
def tAug (i : Nat) (te : TE) (ti : TIp) : TS := fun D σ H => ∃ x, σ[i]? = some (some x) ∧ te σ H fun y H1 => ti x y H1 fun z H2 => D.nx (σ.set i (some z)) H2
theorem ps_aug {i : Nat} {x : Str} {e : Expr} {te : TE} {op : Operator} {ti : TIp} {pos' : Pos} (hN : X.N.Nodup) (hi : X.N[i]? = some x) (hx : Loc X.env.scope x) (he : PE X e te) (ho : PIp X op ti) (hf : X.fn x = true ∨ X.env.scope.names.lookup x = some .local := by first | exact .inl rfl | exact .inr rfl | assumption) :
    PS X (.AugAssign (.Name x pos') op e pos) (tAug i te ti) := by
  intro pins s σ H D I h
  obtain ⟨v, e1, h⟩ := h
  obtain ⟨m, hn, hl⟩ := I.loc
  have vis : Vis X.env.scope x := by rcases hx with k | k; exact .inl k; exact .inr (.inl k)
  obtain ⟨u, r, l⟩ := hl i x v hi e1 vis
  refine wpAny_AugAssign_Name ?_
  have go : wpAny (model X.prog X.w) X.A (eval e X.env) (fun w s₂ => wpAny (model X.prog X.w) X.A (inplaceOp op u w) (fun r s₃ => wpAny (model X.prog X.w) X.A (storeName X.env x r) (fun _ => SP X pins D .next) X.xe s₃) X.xe s₂) X.xe s := by
    refine thn (he pins s σ H _ I h) fun w s1 ⟨y, H1, I1, r1, q1⟩ => ?_
    refine thn (ho pins s1 σ H1 v y u w _ I1 r r1 q1) fun z s2 ⟨zv, H2, I2, r2, q2⟩ => ?_
    exact store_ok I2 hN hi hx r2 (fun s3 I3 => ⟨_, H2, I3, q2⟩) hf
  rcases l with ⟨hk, hm⟩ | ⟨hk, c, hc, hcell⟩
  · exact wpAny_loadName_local I.ok.kind hk hn hm go
  · rcases hk with hk | hk
    · exact wpAny_loadName_cell I.ok.kind hk hc hcell go
    · rcases hx with k | k
      · have : X.env.scope.names.lookup x = some .free := hk
        rw [k] at this; cases this
      · have : X.env.scope.names.lookup x = some .free := hk
        rw [k] at this; cases this
/-- o[i] op= e -/
def tAugS (to ti te : TE) (tget : V → V → Hp → VK → Prop) (tip : TIp) (tset : TSet) : TS := fun D σ H => to σ H fun o H1 => ti σ H1 fun i H2 => tget o i H2 fun x H3 => te σ H3 fun y H4 => tip x y H4 fun z H5 => tset o i z H5 fun H6 => D.nx σ H6
/-- o[i], by values -/
def PGet (X : Cx) (t : V → V → Hp → VK → Prop) : Prop :=
  ∀ (pins : List (Addr × Obj)) (s : Shared) (σ : St) (H : Hp) (o i : V) (ov iv : Value) (Q : VK), Inv X pins σ H s → RelV o ov → RelV i iv → t o i H Q →
    wpAny (model X.prog X.w) X.A (getItem ov iv) (EP X pins σ Q) X.xe s
theorem ps_augS {o i e : Expr} {to ti te : TE} {tget : V → V → Hp → VK → Prop} {tip : TIp} {tset : TSet} {op : Operator} {tpos : Pos} (ho : PE X o to) (hi : PE X i ti) (hg : PGet X tget) (he : PE X e te) (hp : PIp X op tip) (hs : PSet X tset)
    (ha : ∀ ov iv new, augStore i ov iv new = (do holding [new, ov, iv] (setItem ov iv new); release [new, ov, iv] []; pure .next) := by intros; rfl) : PS X (.AugAssign (.Subscript o i tpos) op e pos) (tAugS to ti te tget tip tset) := by
  intro pins s σ H D I h
  refine wpAny_AugAssign_SubscriptAny (thn (ho pins s σ H _ I h) fun ov s1 ⟨x1, H1, I1, r1, q1⟩ => ?_) ha
  refine thn (hi pins s1 σ H1 _ I1 q1) fun iv s2 ⟨x2, H2, I2, r2, q2⟩ => ?_
  refine thn (hg pins s2 σ H2 x1 x2 ov iv _ I2 r1 r2 q2) fun old s3 ⟨x3, H3, I3, r3, q3⟩ => ?_
  refine thn (he pins s3 σ H3 _ I3 q3) fun v s4 ⟨x4, H4, I4, r4, q4⟩ => ?_
  refine thn (hp pins s4 σ H4 x3 x4 old v _ I4 r3 r4 q4) fun new s5 ⟨x5, H5, I5, r5, q5⟩ => ?_
  exact thn (hs pins s5 σ H5 x1 x2 x5 ov iv new _ I5 r1 r2 r5 q5) fun _ s6 ⟨H6, I6, q6⟩ => ⟨σ, H6, I6, q6⟩
/-- ints -/
def ipI (f : Int → Int → Int) : TIp := fun x y H Q => ∃ i j, x = .int i ∧ y = .int j ∧ Q (.int (f i j)) H
theorem ip_add : PIp X .Add (ipI fun i j => i + j) := by
  intro pins s σ H x y v u Q I r1 r2 h
  obtain ⟨i, j, e1, e2, q⟩ := h
  subst e1; subst e2
  obtain ⟨t, rfl⟩ := r1
  obtain ⟨t', rfl⟩ := r2
  exact iadd_int ⟨.int _, H, I.tok _, ⟨_, rfl⟩, q⟩
theorem ip_sub : PIp X .Sub (ipI fun i j => i - j) := by
  intro pins s σ H x y v u Q I r1 r2 h
  obtain ⟨i, j, e1, e2, q⟩ := h
  subst e1; subst e2
  obtain ⟨t, rfl⟩ := r1
  obtain ⟨t', rfl⟩ := r2
  exact isub_int ⟨.int _, H, I.tok _, ⟨_, rfl⟩, q⟩
end

/-! ### while -/
section
variable {X : Cx} {pos : Pos}
/-- the invariant W with its measure -/
def tWhile (c : TT) (tb : TS) : TS := fun D σ H => ∃ W : Nat → St → Hp → Prop, (∃ m, W m σ H) ∧ ∀ m σ H, W m σ H →
  c σ H fun b H1 => if b = true then ∃ N : St → Hp → Prop, (∀ σ' H', N σ' H' → ∃ m', m' < m ∧ W m' σ' H') ∧ tb { D with nx := N, ct := N, bk := D.nx } σ H1 else D.nx σ H1
theorem ps_while {c : Expr} {body : List Stmt} {tc : TT} {tb : TS} (hp : PassesOwn (model X.prog X.w) X.A X.env X.xe) (hc : PT X c tc) (hb : PSs X body tb) : PS X (.While c body [] pos) (tWhile tc tb) := by
  intro pins s σ H D I h
  obtain ⟨W, ⟨m0, w0⟩, turn⟩ := h
  refine wpAny_While (codeAny_whileLoop (fun n s' => ∃ σ' H', Inv X pins σ' H' s' ∧ W n σ' H') ?_ m0 ⟨σ, H, I, w0⟩)
  rintro n s1 ⟨σ1, H1, I1, w1⟩
  refine wpAny_passesOwn hp (thn (hc pins s1 σ1 H1 _ I1 (turn n σ1 H1 w1)) fun b s2 ⟨H2, I2, q2⟩ => ?_)
  cases b with
  | true =>
    obtain ⟨N, hN, q2⟩ := q2
    rw [if_pos rfl]
    refine wpAny_passesOwn hp (thn (hb pins s2 σ1 H2 _ I2 q2) fun f s3 q3 => ?_)
    cases f with
    | next =>
      obtain ⟨σ3, H3, I3, n3⟩ := q3
      obtain ⟨m', hm, w3⟩ := hN σ3 H3 n3
      exact ⟨m', hm, σ3, H3, I3, w3⟩
    | cont =>
      obtain ⟨σ3, H3, I3, n3⟩ := q3
      obtain ⟨m', hm, w3⟩ := hN σ3 H3 n3
      exact ⟨m', hm, σ3, H3, I3, w3⟩
    | brk => exact q3
    | ret v => exact q3
  | false =>
    rw [if_neg Bool.false_ne_true]
    exact wpAny_execs_nil ⟨σ1, H2, I2, q2⟩
end

/-! ### what a loop or a comprehension walks -/
/-- at turn i: it yields x (the heap may grow), or it stops -/
structure It where
  go : Nat → Hp → Prop
  yld : Nat → Hp → V → Hp → Prop
  stop : Nat → Hp → Prop
/-- the iterator's own objects may turn: they are not the frame's, not pinned, younger than the entry (or a comprehension's own) -/
def FpOk (X : Cx) (pins : List (Addr × Obj)) (H : Hp) (b : Addr) : Prop :=
  H b = none ∧ b ≠ X.env.locals ∧ b ∉ X.fs ∧ (b ∈ X.ex ∨ X.s₀.heap.objs.size ≤ b) ∧ (∀ x c, X.env.cells.lookup x = some c → c ≠ b) ∧ ∀ p ∈ X.pn ++ pins, p.1 ≠ b
theorem Inv.fpOk {X : Cx} {pins : List (Addr × Obj)} {σ : St} {H H' : Hp} {s : Shared} {b : Addr} (I : Inv X pins σ H s) (hb : s.heap.objs.size ≤ b) (hn : H' b = none) : FpOk X pins H' b := by
  refine ⟨hn, Nat.ne_of_gt (Nat.lt_of_lt_of_le I.lt hb), I.nofs hb, .inr (Nat.le_trans I.sz hb), fun x c e z => ?_, fun p hp z => ?_⟩
  · obtain ⟨v, q⟩ := I.cell x c e
    exact absurd (Nat.lt_of_lt_of_le q.lt (by rw [z]; exact hb)) (Nat.lt_irrefl _)
  · exact absurd (Nat.lt_of_lt_of_le (Heap.lt_size (I.pin p hp).1) (by rw [z]; exact hb)) (Nat.lt_irrefl _)
structure Turn (P : Program) (w : World) (K : PySem.W.Frag) (tg : Expr) (J : It) (fp : List Addr) (it : Addr) (tn : Nat → Heap → Prop) : Prop where
  mem : it ∈ fp
  obj : ∀ i h, tn i h → ∀ b ∈ fp, ∃ o, h.get? b = some o ∧ ∀ v, o.data ≠ .cell v
  keep : ∀ i h h', tn i h → (∀ b ∈ fp, ∀ o, h.get? b = some o → h'.get? b = some o) → tn i h'
  item : ∀ (X : Cx), X.prog = P → X.w = w → X.K = K → X.calm = true → ∀ (i : Nat) (pins : List (Addr × Obj)) (s : Shared) (σ : St) (H : Hp) (E : Value → Shared → Prop), Inv X pins σ H s → (∀ b ∈ fp, FpOk X pins H b) → tn i s.heap → J.go i H →
    wpAny (model P w) X.A (pyNext (.ref it)) (fun r s1 => ∃ u, r = some u ∧
      wpAny (model P w) X.A (letOwnedTupleGo tg (.ref it) u) (fun _ s2 => ∃ x H', Inv X pins σ H' s2 ∧ RelV x u ∧ J.yld i H x H' ∧ tn (i + 1) s2.heap ∧ ∀ b ∈ fp, H' b = none) E s1) E s
  done : ∀ (X : Cx), X.prog = P → X.w = w → X.K = K → X.calm = true → ∀ (i : Nat) (pins : List (Addr × Obj)) (s : Shared) (σ : St) (H : Hp) (E : Value → Shared → Prop), Inv X pins σ H s → (∀ b ∈ fp, FpOk X pins H b) → tn i s.heap → J.stop i H →
    wpAny (model P w) X.A (pyNext (.ref it)) (fun r s1 => r = none ∧ Inv X pins σ H s1) E s
  self : ∀ (A : Around) (i : Nat) (s : Shared) (Q : Value → Shared → Prop) (E : Value → Shared → Prop), tn i s.heap → Q (.ref it) s → wpAny (model P w) A (pyIter (.ref it)) Q E s
abbrev TI := St → Hp → (It → Hp → Prop) → Prop
/-- an iterator has come -/
def PIE (X : Cx) (pins : List (Addr × Obj)) (σ : St) (tg : Expr) (R : It → Hp → Prop) (itv : Value) (s2 : Shared) : Prop :=
  ∃ (it : Addr) (fp : List Addr) (tn : Nat → Heap → Prop) (J : It) (H' : Hp), itv = .ref it ∧ Inv X pins σ H' s2 ∧ Turn X.prog X.w X.K tg J fp it tn ∧ tn 0 s2.heap ∧ (∀ b ∈ fp, FpOk X pins H' b) ∧ R J H'
def PI (X : Cx) (tg iter : Expr) (wi : TI) : Prop :=
  ∀ (pins : List (Addr × Obj)) (s : Shared) (σ : St) (H : Hp) (R : It → Hp → Prop), Inv X pins σ H s → wi σ H R →
    wpAny (model X.prog X.w) X.A (eval iter X.env) (fun v s1 => wpAny (model X.prog X.w) X.A (pyIter v) (PIE X pins σ tg R) X.xe s1) X.xe s

/-- the step ahead of the store is nothing for an iterator that keeps no tuple -/
theorem go_of {M : Model} {A : Around} {E : Value → Shared → Prop} {s : Shared} {tg : Expr} {it : Addr} {u : Value} {o : Obj} {n : String} {vs : Array Value} {Q : Unit → Shared → Prop} (ho : s.heap.get? it = some o) (hc : o.cls = .type n) (hd : o.data = .fields vs)
    (hn : ["enumerate", "zip", "dict_itemiterator", "dict_reverseitemiterator", "odict_iterator", "itertools.zip_longest", "itertools.pairwise"].contains n = false) (hQ : Q () s) : wpAny M A (letOwnedTupleGo tg (.ref it) u) Q E s := by
  unfold letOwnedTupleGo
  cases tg <;> first
    | exact wpAny_pure hQ
    | (cases u <;> first
        | exact wpAny_pure hQ
        | (refine wpAny_bind (wpAny_load ho ?_)
           rw [hc, hd]
           show wpAny M A (if (["enumerate", "zip", "dict_itemiterator", "dict_reverseitemiterator", "odict_iterator", "itertools.zip_longest", "itertools.pairwise"].contains n && vs[0]? == some (rawInt _)) = true then _ else _) Q E s
           rw [if_neg (by intro h; rw [hn, Bool.false_and] at h; cases h)]
           exact wpAny_pure hQ))

/-- the list at a, as it stands at each turn (a loop may append to it) -/
def Itl (K : PySem.W.Frag) (a : Addr) : It :=
  ⟨fun i H => ∃ xs x, SqL K H a xs ∧ xs[i]? = some x, fun i H x H' => H' = H ∧ ∀ xs, SqL K H a xs → xs[i]? = some x, fun i H => ∃ xs, SqL K H a xs ∧ xs.length ≤ i⟩
def Itt (K : PySem.W.Frag) (a : Addr) : It :=
  ⟨fun i H => ∃ xs x, SqT K H a xs ∧ xs[i]? = some x, fun i H x H' => H' = H ∧ ∀ xs, SqT K H a xs → xs[i]? = some x, fun i H => ∃ xs, SqT K H a xs ∧ xs.length ≤ i⟩
/-- lo, lo + 1, .. (n of them) -/
def Itr (lo : Int) (n : Nat) : It := ⟨fun i _ => i < n, fun i H x H' => H' = H ∧ x = .int (lo + i), fun i _ => n ≤ i⟩
theorem turn_list {P : Program} {w : World} {K : PySem.W.Frag} {tg : Expr} (a it : Addr) : Turn P w K tg (Itl K a) [it] it (fun i h => h.IsListIter it a i) where
  mem := by simp
  obj := fun i h st b hb => by
    have e : b = it := by simpa using hb
    subst e
    obtain ⟨o, e, c, d⟩ := st
    exact ⟨o, e, fun v z => by rw [d] at z; cases z⟩
  keep := fun i h h' st k => st.at fun o e => k it (by simp) o e
  item := by
    intro X hP hw hK hc i pins s σ H E I hf st hg
    subst hP hw hK
    obtain ⟨xs, x, hq, hx⟩ := hg
    obtain ⟨its, rv, p, hz⟩ := I.list hq
    obtain ⟨u, hu, ru⟩ := rv.get hx
    obtain ⟨f0, f1, f2, f3, f4, f5⟩ := hf it (by simp)
    refine wpAny_pyNext_list_item st p.isList (x := u) (by simpa using hu) fun h' st' sb => ?_
    have I1 : Inv X pins σ H { s with heap := h' } := I.turned (t' := s.toks) (fun b o hb e => (sb.2 b hb).trans e) f0 f1 f3 f4 f5
    obtain ⟨o, e, c, d⟩ := id st'
    exact ⟨u, rfl, go_of (s := { s with heap := h' }) e c d (by decide) ⟨x, H, I1, ru, ⟨rfl, fun ys hy => by rw [I.list_inj hy hq]; exact hx⟩, st', fun b hb => (hf b hb).1⟩⟩
  done := by
    intro X hP hw hK hc i pins s σ H E I hf st hg
    subst hP hw hK
    obtain ⟨xs, hq, hx⟩ := hg
    obtain ⟨its, rv, p, hz⟩ := I.list hq
    obtain ⟨f0, f1, f2, f3, f4, f5⟩ := hf it (by simp)
    have hl := rv.length
    exact wpAny_pyNext_list_end (I.ok.hd hc) st p.isList (by simp; omega) fun h' eb => ⟨rfl, I.turned (t' := s.toks) (fun b o hb e => eb b o hb e) f0 f1 f3 f4 f5⟩
  self := fun _ _ _ _ _ st h => wpAny_pyIter_listiter st h
theorem turn_tuple {P : Program} {w : World} {K : PySem.W.Frag} {tg : Expr} (a it : Addr) : Turn P w K tg (Itt K a) [it] it (fun i h => h.IsTupleIter it a i) where
  mem := by simp
  obj := fun i h st b hb => by
    have e : b = it := by simpa using hb
    subst e
    obtain ⟨o, e, c, d⟩ := st
    exact ⟨o, e, fun v z => by rw [d] at z; cases z⟩
  keep := fun i h h' st k => st.at fun o e => k it (by simp) o e
  item := by
    intro X hP hw hK hc i pins s σ H E I hf st hg
    subst hP hw hK
    obtain ⟨xs, x, hq, hx⟩ := hg
    obtain ⟨its, rv, p, hz⟩ := I.tuple hq
    obtain ⟨u, hu, ru⟩ := rv.get hx
    obtain ⟨f0, f1, f2, f3, f4, f5⟩ := hf it (by simp)
    refine wpAny_pyNext_tuple_item st (show s.heap.IsTuple a its.toArray from p) (x := u) (by simpa using hu) fun h' st' sb => ?_
    have I1 : Inv X pins σ H { s with heap := h' } := I.turned (t' := s.toks) (fun b o hb e => (sb.2 b hb).trans e) f0 f1 f3 f4 f5
    obtain ⟨o, e, c, d⟩ := id st'
    exact ⟨u, rfl, go_of (s := { s with heap := h' }) e c d (by decide) ⟨x, H, I1, ru, ⟨rfl, fun ys hy => by rw [I.tuple_inj hy hq]; exact hx⟩, st', fun b hb => (hf b hb).1⟩⟩
  done := by
    intro X hP hw hK hc i pins s σ H E I hf st hg
    subst hP hw hK
    obtain ⟨xs, hq, hx⟩ := hg
    obtain ⟨its, rv, p, hz⟩ := I.tuple hq
    obtain ⟨f0, f1, f2, f3, f4, f5⟩ := hf it (by simp)
    have hl := rv.length
    exact wpAny_pyNext_tuple_end (I.ok.hd hc) st (show s.heap.IsTuple a its.toArray from p) (by simp; omega) fun h' eb => ⟨rfl, I.turned (t' := s.toks) (fun b o hb e => eb b o hb e) f0 f1 f3 f4 f5⟩
  self := fun _ _ _ _ _ st h => wpAny_pyIter_tupleiter st h
theorem turn_range {P : Program} {w : World} {K : PySem.W.Frag} {tg : Expr} (it : Addr) (lo : Int) (n : Nat) : Turn P w K tg (Itr lo n) [it] it (fun i h => IsRangeIter h it (lo + (i : Nat) * 1) ((n : Int) - (i : Nat)) 1) where
  mem := by simp
  obj := fun i h st b hb => by
    have e : b = it := by simpa using hb
    subst e
    exact ⟨_, st, fun v z => by
      have z' : Data.fields _ = Data.cell v := z
      cases z'⟩
  keep := fun i h h' st k => k it (by simp) _ st
  item := by
    intro X hP hw hK hc i pins s σ H E I hf st hg
    subst hP hw hK
    obtain ⟨f0, f1, f2, f3, f4, f5⟩ := hf it (by simp)
    have W := Walks.range (prog := X.prog) (w := X.w) (I.ok.hd hc) it lo 1 n
    refine W.item i s _ _ hg st fun v h' tk hv st' kk => ?_
    obtain ⟨t, rfl⟩ := hv
    have I1 : Inv X pins σ H { s with heap := h', toks := tk } := I.turned (fun b o hb e => kk b o (by simpa using hb) e) f0 f1 f3 f4 f5
    refine ⟨_, rfl, go_of (s := { s with heap := h', toks := tk }) (n := "range_iterator") st' rfl rfl (by decide) ⟨.int (lo + i), H, I1, ⟨t, ?_⟩, ⟨rfl, rfl⟩, st', fun b hb => (hf b hb).1⟩⟩
    rw [Int.mul_one]
  done := by
    intro X hP hw hK hc i pins s σ H E I hf st hg
    subst hP hw hK
    obtain ⟨f0, f1, f2, f3, f4, f5⟩ := hf it (by simp)
    exact wpAny_pyNext_range_end (I.ok.hd hc) st (by have : n ≤ i := hg; omega) fun h' eb => ⟨rfl, I.turned (t' := s.toks) (fun b o hb e => eb b o hb e) f0 f1 f3 f4 f5⟩
  self := fun _ _ _ _ _ st h => wpAny_pyIter_rangeiter st h
end L2

namespace L2
open PySem PySem.Spec PyProof.Rows
section
variable {X : Cx} {tg : Expr}
def iList (K : PySem.W.Frag) (tl : TE) : TI := fun σ H R => tl σ H fun x H1 => ∃ a, x = .ref a ∧ (∃ xs, SqL K H1 a xs) ∧ R (Itl K a) H1
def iTup (K : PySem.W.Frag) (tl : TE) : TI := fun σ H R => tl σ H fun x H1 => ∃ a, x = .ref a ∧ (∃ xs, SqT K H1 a xs) ∧ R (Itt K a) H1
theorem pi_list {l : Expr} {tl : TE} (hl : PE X l tl) : PI X tg l (iList X.K tl) := by
  intro pins s σ H R I h
  refine thn (hl pins s σ H _ I h) fun v s1 ⟨x, H1, I1, r1, q1⟩ => ?_
  obtain ⟨a, e, ⟨xs, hq⟩, q⟩ := q1
  subst e
  cases r1
  obtain ⟨its, rv, p, hz⟩ := I1.list hq
  refine wpAny_pyIter_list p.isList ?_
  refine ⟨s1.heap.objs.size, [s1.heap.objs.size], _, _, H1, rfl, I1.kept (t' := s1.toks) fun b o e => Heap.get?_push_of_some _ e, turn_list a _, ⟨_, Heap.get?_push_size _ rfl, rfl, rfl⟩, fun b hb => ?_, q⟩
  have e : b = s1.heap.objs.size := by simpa using hb
  subst e
  exact I1.fpOk (Nat.le_refl _) (I1.hok.fresh (Nat.le_refl _))
theorem pi_tup {l : Expr} {tl : TE} (hl : PE X l tl) : PI X tg l (iTup X.K tl) := by
  intro pins s σ H R I h
  refine thn (hl pins s σ H _ I h) fun v s1 ⟨x, H1, I1, r1, q1⟩ => ?_
  obtain ⟨a, e, ⟨xs, hq⟩, q⟩ := q1
  subst e
  cases r1
  obtain ⟨its, rv, p, hz⟩ := I1.tuple hq
  refine wpAny_pyIter_tuple (show s1.heap.IsTuple a its.toArray from p) ?_
  refine ⟨s1.heap.objs.size, [s1.heap.objs.size], _, _, H1, rfl, I1.kept (t' := s1.toks) fun b o e => Heap.get?_push_of_some _ e, turn_tuple a _, ⟨_, Heap.get?_push_size _ rfl, rfl, rfl⟩, fun b hb => ?_, q⟩
  have e : b = s1.heap.objs.size := by simpa using hb
  subst e
  exact I1.fpOk (Nat.le_refl _) (I1.hok.fresh (Nat.le_refl _))
/-- a range object just made, walked -/
theorem range_it {pins : List (Addr × Obj)} {σ : St} {H : Hp} {s : Shared} {R : It → Hp → Prop} {E : Value → Shared → Prop} {lo hi : Int} {t u v : Tok} {tk : Nat} (I : Inv X pins σ H s) (h1 : -(2 ^ 62) ≤ lo) (h2 : lo < 2 ^ 62) (h3 : -(2 ^ 62) ≤ hi) (h4 : hi < 2 ^ 62)
    (q : R (Itr lo (hi - lo).toNat) H) : wpAny (model X.prog X.w) X.A (pyIter (.ref s.heap.objs.size)) (PIE X pins σ tg R) E { s with heap := s.heap.push { cls := .type "range", data := .fields #[.int lo t, .int hi u, .int 1 v] }, toks := tk } := by
  refine wpAny_pyIter_range (IsRange.new ..) (small_one h1 h2 h3 h4) ?_
  have I1 : Inv X pins σ H { s with heap := s.heap.push { cls := .type "range", data := .fields #[.int lo t, .int hi u, .int 1 v] }, toks := tk } := I.kept fun b o e => Heap.get?_push_of_some _ e
  refine ⟨(s.heap.push { cls := .type "range", data := .fields #[.int lo t, .int hi u, .int 1 v] }).objs.size, [(s.heap.push { cls := .type "range", data := .fields #[.int lo t, .int hi u, .int 1 v] }).objs.size], _, _, H, rfl,
    I1.kept (t' := tk) fun b o e => Heap.get?_push_of_some _ e, turn_range _ lo (hi - lo).toNat, ?_, fun b hb => ?_, q⟩
  · have e1 : lo + ((0 : Nat) : Int) * 1 = lo := by simp
    have e2 : (((hi - lo).toNat : Nat) : Int) - ((0 : Nat) : Int) = Builtin.Range.rangeSize lo hi 1 := by rw [rangeSize_one]; split <;> omega
    show IsRangeIter _ _ (lo + ((0 : Nat) : Int) * 1) ((((hi - lo).toNat : Nat) : Int) - ((0 : Nat) : Int)) 1
    rw [e1, e2]
    exact Heap.get?_push_size _ rfl
  · have e : b = (s.heap.push { cls := .type "range", data := .fields #[.int lo t, .int hi u, .int 1 v] }).objs.size := by simpa using hb
    subst e
    exact I1.fpOk (Nat.le_refl _) (I1.hok.fresh (Nat.le_refl _))
def iRng1 (ta : TA) : TI := fun σ H R => ta σ H fun vs H1 => ∃ j : Int, vs = [.int j] ∧ -(2 ^ 62) ≤ j ∧ j < 2 ^ 62 ∧ R (Itr 0 j.toNat) H1
def iRng2 (ta : TA) : TI := fun σ H R => ta σ H fun vs H1 => ∃ i j : Int, vs = [.int i, .int j] ∧ (-(2 ^ 62) ≤ i ∧ i < 2 ^ 62 ∧ -(2 ^ 62) ≤ j ∧ j < 2 ^ 62) ∧ R (Itr i (j - i).toNat) H1
theorem pi_range1 {a : Expr} {ta : TA} {p pos : Pos} (hg : Gl X "range") (hm : X.mg "range" = none) (ha : PA X [a] ta) (hs : starEach [a] X.env = [(false, eval a X.env)] := by rfl) : PI X tg (.Call (.Name "range" p) [a] [] pos) (iRng1 ta) := by
  intro pins s σ H R I h
  refine Call_ (ld_blt I hg hm boot_range (PyProof.Rows.callWith_type1 (thn (ha pos pins s σ H _ I h) fun us s1 ⟨vs, H1, I1, r1, q1⟩ => ?_) hs rfl))
  obtain ⟨j, e, q1, q2, q⟩ := q1
  subst e
  cases r1 with
  | cons r rr =>
    cases rr
    obtain ⟨t, rfl⟩ := r
    exact call_range_1 (range_it I1 (by omega) (by omega) q1 q2 (by simpa using q))
theorem pi_range2 {a b : Expr} {ta : TA} {p pos : Pos} (hg : Gl X "range") (hm : X.mg "range" = none) (ha : PA X [a, b] ta) (hs : starEach [a, b] X.env = [(false, eval a X.env), (false, eval b X.env)] := by rfl) (hs2 : starEach [b] X.env = [(false, eval b X.env)] := by rfl) :
    PI X tg (.Call (.Name "range" p) [a, b] [] pos) (iRng2 ta) := by
  intro pins s σ H R I h
  refine Call_ (ld_blt I hg hm boot_range (PyProof.Rows.callWith_type1 (thn (ha pos pins s σ H _ I h) fun us s1 ⟨vs, H1, I1, r1, q1⟩ => ?_) (by rw [hs, hs2]) (by rw [hs2]; rfl)))
  obtain ⟨i, j, e, ⟨q1, q2, q3, q4⟩, q⟩ := q1
  subst e
  cases r1 with
  | cons r rr =>
    cases rr with
    | cons r' rr =>
      cases rr
      obtain ⟨t, rfl⟩ := r
      obtain ⟨t', rfl⟩ := r'
      exact call_range_2 (range_it I1 q1 q2 q3 q4 q)

/-! ### for -/
/-- W: the invariant by the turn and a measure; N: what the body is to reach -/
def tFor (wi : TI) (g : TG) (tb : TS) : TS := fun D σ H => wi σ H fun J H1 => ∃ W : Nat → Nat → St → Hp → Prop, (∃ m, W 0 m σ H1) ∧ ∀ i m σ H, W i m σ H →
  (J.stop i H ∧ D.nx σ H) ∨ (J.go i H ∧ ∃ N : St → Hp → Prop, (∀ σ' H', N σ' H' → ∃ m', m' < m ∧ W (i + 1) m' σ' H') ∧ ∀ x H', J.yld i H x H' → g x σ H' fun σ2 H2 => tb { D with nx := N, ct := N, bk := D.nx } σ2 H2)
/-- the records at fp as they stand -/
def pinsAt (fp : List Addr) (h : Heap) : List (Addr × Obj) := fp.filterMap fun b => (h.get? b).map fun o => (b, o)
theorem mem_pinsAt {fp : List Addr} {h : Heap} {b : Addr} {o : Obj} (hb : b ∈ fp) (e : h.get? b = some o) : (b, o) ∈ pinsAt fp h := List.mem_filterMap.mpr ⟨b, hb, by rw [e]; rfl⟩
theorem of_pinsAt {fp : List Addr} {h : Heap} {p : Addr × Obj} (hp : p ∈ pinsAt fp h) : p.1 ∈ fp ∧ h.get? p.1 = some p.2 := by
  obtain ⟨b, hb, e⟩ := List.mem_filterMap.mp hp
  cases q : h.get? b with
  | none => rw [q] at e; cases e
  | some o =>
    rw [q] at e
    have e' : (b, o) = p := Option.some.inj e
    subst e'
    exact ⟨hb, q⟩
theorem Inv.pinned {pins : List (Addr × Obj)} {σ : St} {H : Hp} {s : Shared} {fp : List Addr} (I : Inv X pins σ H s) (hf : ∀ b ∈ fp, FpOk X pins H b) (ho : ∀ b ∈ fp, ∃ o, s.heap.get? b = some o ∧ ∀ v, o.data ≠ .cell v) : Inv X (pins ++ pinsAt fp s.heap) σ H s :=
  I.pins_of fun p hp => (List.mem_append.mp hp).elim (fun z => I.pin p (List.mem_append_right _ z)) fun z => by
    obtain ⟨hb, e⟩ := of_pinsAt z
    obtain ⟨f0, f1, f2, _⟩ := hf p.1 hb
    obtain ⟨o, e', d⟩ := ho p.1 hb
    rw [e] at e'; cases e'
    exact ⟨e, f0, f1, f2, d⟩
theorem Inv.unpinned {pins pl : List (Addr × Obj)} {σ : St} {H : Hp} {s : Shared} (I : Inv X (pins ++ pl) σ H s) : Inv X pins σ H s := I.pins_of fun p hp => I.pin p (List.mem_append_right _ (List.mem_append_left _ hp))
theorem ps_for {iter : Expr} {body : List Stmt} {wi : TI} {g : TG} {tb : TS} {pos : Pos} (hp : PassesOwn (model X.prog X.w) X.A X.env X.xe) (hc : X.calm = true) (hi : PI X tg iter wi) (hg : PG X tg g) (hb : PSs X body tb)
    (hs : ∀ x, foldedSetIterable iter X.env x = pure x := by intro _; rfl) : PS X (.For tg iter body [] pos) (tFor wi g tb) := by
  intro pins s σ H D I h
  refine wpAny_For (thn (hi pins s σ H _ I h) fun v s1 h1 => thn h1 fun itv s2 h2 => ?_) hs
  obtain ⟨it, fp, tn, J, H2, e, I2, T, st2, f2, W, ⟨m0, w0⟩, turn⟩ := h2
  subst e
  -- what stays true of the iterator's objects through the loop
  have stat : ∀ {H' : Hp}, (∀ b ∈ fp, H' b = none) → ∀ b ∈ fp, FpOk X pins H' b := fun hn b hb => ⟨hn b hb, (f2 b hb).2⟩
  refine codeAny_forLoop_any (fun n s' => ∃ i σ' H', Inv X pins σ' H' s' ∧ tn i s'.heap ∧ (∀ b ∈ fp, H' b = none) ∧ W i n σ' H') ?_ m0 ⟨0, σ, H2, I2, st2, fun b hb => (f2 b hb).1, w0⟩
  rintro n s3 ⟨i, σ3, H3, I3, st3, fr3, w3⟩
  rcases turn i n σ3 H3 w3 with ⟨stop, qn⟩ | ⟨go, N, hN, step⟩
  · refine wpAny_passesOwn hp (thn (T.done X rfl rfl rfl hc i pins s3 σ3 H3 X.xe I3 (stat fr3) st3 stop) fun r s4 ⟨hr, I4⟩ => ?_)
    subst hr
    exact wpAny_execs_nil ⟨σ3, H3, I4, qn⟩
  · refine wpAny_passesOwn hp (thn (T.item X rfl rfl rfl hc i pins s3 σ3 H3 X.xe I3 (stat fr3) st3 go) fun r s4 ⟨u, hr, h4⟩ => ?_)
    subst hr
    refine wpAny_passesOwn hp (thn h4 fun _ s5 ⟨x, H5, I5, r5, y5, st5, fr5⟩ => ?_)
    have I5' := I5.pinned (stat fr5) (T.obj _ _ st5)
    refine wpAny_passesOwn hp (thn (hg _ s5 σ3 H5 x u _ I5' r5 (step x H5 y5)) fun _ s6 ⟨σ6, H6, I6, q6⟩ => ?_)
    refine wpAny_passesOwn hp (thn (hb _ s6 σ6 H6 _ I6 q6) fun f s7 q7 => ?_)
    have again : ∀ {σ7 : St} {H7 : Hp}, Inv X (pins ++ pinsAt fp s5.heap) σ7 H7 s7 → N σ7 H7 → ∃ m, m < n ∧ ∃ i σ' H', Inv X pins σ' H' s7 ∧ tn i s7.heap ∧ (∀ b ∈ fp, H' b = none) ∧ W i m σ' H' := fun {σ7 H7} I7 n7 => by
      obtain ⟨m', hm, w7⟩ := hN σ7 H7 n7
      refine ⟨m', hm, i + 1, σ7, H7, I7.unpinned, T.keep _ _ _ st5 fun b hb o e => (I7.pin (b, o) (List.mem_append_right _ (List.mem_append_right _ (mem_pinsAt hb e)))).1, fun b hb => ?_, w7⟩
      obtain ⟨o, e, d⟩ := T.obj _ _ st5 b hb
      exact (I7.pin (b, o) (List.mem_append_right _ (List.mem_append_right _ (mem_pinsAt hb e)))).2.1
    cases f with
    | next => obtain ⟨σ7, H7, I7, n7⟩ := q7; exact again I7 n7
    | cont => obtain ⟨σ7, H7, I7, n7⟩ := q7; exact again I7 n7
    | brk => obtain ⟨σ7, H7, I7, q7⟩ := q7; exact ⟨σ7, H7, I7.unpinned, q7⟩
    | ret v => obtain ⟨x7, σ7, H7, I7, r7, q7⟩ := q7; exact ⟨x7, σ7, H7, I7.unpinned, r7, q7⟩
end

/-! ### the forms one uses -/
/-- over a list that the body leaves as it is -/
theorem for_list {K : PySem.W.Frag} {a : Addr} {xs : List V} {g : TG} {tb : TS} {D : Ends} {σ : St} {H : Hp} (Pv : Nat → St → Hp → Prop) (h0 : Pv 0 σ H) (hl : ∀ i σ H, i ≤ xs.length → Pv i σ H → SqL K H a xs)
    (hs : ∀ i x σ H, xs[i]? = some x → Pv i σ H → g x σ H fun σ2 H2 => tb { D with nx := Pv (i + 1), ct := Pv (i + 1), bk := D.nx } σ2 H2) (hd : ∀ σ H, Pv xs.length σ H → D.nx σ H) :
    ∃ W : Nat → Nat → St → Hp → Prop, (∃ m, W 0 m σ H) ∧ ∀ i m σ H, W i m σ H →
      ((Itl K a).stop i H ∧ D.nx σ H) ∨ ((Itl K a).go i H ∧ ∃ N : St → Hp → Prop, (∀ σ' H', N σ' H' → ∃ m', m' < m ∧ W (i + 1) m' σ' H') ∧ ∀ x H', (Itl K a).yld i H x H' → g x σ H' fun σ2 H2 => tb { D with nx := N, ct := N, bk := D.nx } σ2 H2) := by
  refine ⟨fun i m σ H => m = xs.length - i ∧ i ≤ xs.length ∧ Pv i σ H, ⟨xs.length, by simp, Nat.zero_le _, h0⟩, ?_⟩
  rintro i m σ H ⟨rfl, hi, p⟩
  have q := hl i σ H hi p
  by_cases hlt : i < xs.length
  · refine .inr ⟨⟨xs, xs[i], q, by simp [hlt]⟩, Pv (i + 1), fun σ' H' p' => ⟨xs.length - (i + 1), by omega, rfl, hlt, p'⟩, fun x H' y => ?_⟩
    obtain ⟨e, y⟩ := y
    subst e
    exact hs i x σ _ (y xs q) p
  · have e : i = xs.length := by omega
    subst e
    exact .inl ⟨⟨xs, q, Nat.le_refl _⟩, hd σ H p⟩
theorem for_tup {K : PySem.W.Frag} {a : Addr} {xs : List V} {g : TG} {tb : TS} {D : Ends} {σ : St} {H : Hp} (Pv : Nat → St → Hp → Prop) (h0 : Pv 0 σ H) (hl : ∀ i σ H, i ≤ xs.length → Pv i σ H → SqT K H a xs)
    (hs : ∀ i x σ H, xs[i]? = some x → Pv i σ H → g x σ H fun σ2 H2 => tb { D with nx := Pv (i + 1), ct := Pv (i + 1), bk := D.nx } σ2 H2) (hd : ∀ σ H, Pv xs.length σ H → D.nx σ H) :
    ∃ W : Nat → Nat → St → Hp → Prop, (∃ m, W 0 m σ H) ∧ ∀ i m σ H, W i m σ H →
      ((Itt K a).stop i H ∧ D.nx σ H) ∨ ((Itt K a).go i H ∧ ∃ N : St → Hp → Prop, (∀ σ' H', N σ' H' → ∃ m', m' < m ∧ W (i + 1) m' σ' H') ∧ ∀ x H', (Itt K a).yld i H x H' → g x σ H' fun σ2 H2 => tb { D with nx := N, ct := N, bk := D.nx } σ2 H2) := by
  refine ⟨fun i m σ H => m = xs.length - i ∧ i ≤ xs.length ∧ Pv i σ H, ⟨xs.length, by simp, Nat.zero_le _, h0⟩, ?_⟩
  rintro i m σ H ⟨rfl, hi, p⟩
  have q := hl i σ H hi p
  by_cases hlt : i < xs.length
  · refine .inr ⟨⟨xs, xs[i], q, by simp [hlt]⟩, Pv (i + 1), fun σ' H' p' => ⟨xs.length - (i + 1), by omega, rfl, hlt, p'⟩, fun x H' y => ?_⟩
    obtain ⟨e, y⟩ := y
    subst e
    exact hs i x σ _ (y xs q) p
  · have e : i = xs.length := by omega
    subst e
    exact .inl ⟨⟨xs, q, Nat.le_refl _⟩, hd σ H p⟩
theorem for_range {lo : Int} {n : Nat} {g : TG} {tb : TS} {D : Ends} {σ : St} {H : Hp} (Pv : Nat → St → Hp → Prop) (h0 : Pv 0 σ H)
    (hs : ∀ i σ H, i < n → Pv i σ H → g (.int (lo + i)) σ H fun σ2 H2 => tb { D with nx := Pv (i + 1), ct := Pv (i + 1), bk := D.nx } σ2 H2) (hd : ∀ σ H, Pv n σ H → D.nx σ H) :
    ∃ W : Nat → Nat → St → Hp → Prop, (∃ m, W 0 m σ H) ∧ ∀ i m σ H, W i m σ H →
      ((Itr lo n).stop i H ∧ D.nx σ H) ∨ ((Itr lo n).go i H ∧ ∃ N : St → Hp → Prop, (∀ σ' H', N σ' H' → ∃ m', m' < m ∧ W (i + 1) m' σ' H') ∧ ∀ x H', (Itr lo n).yld i H x H' → g x σ H' fun σ2 H2 => tb { D with nx := N, ct := N, bk := D.nx } σ2 H2) := by
  refine ⟨fun i m σ H => m = n - i ∧ i ≤ n ∧ Pv i σ H, ⟨n, by simp, Nat.zero_le _, h0⟩, ?_⟩
  rintro i m σ H ⟨rfl, hi, p⟩
  by_cases hlt : i < n
  · refine .inr ⟨hlt, Pv (i + 1), fun σ' H' p' => ⟨n - (i + 1), by omega, rfl, hlt, p'⟩, fun x H' y => ?_⟩
    obtain ⟨e, y⟩ := y
    subst e y
    exact hs i σ _ hlt p
  · have e : i = n := by omega
    subst e
    exact .inl ⟨Nat.le_refl _, hd σ H p⟩
/-- while, by a word and a measure of the state -/
theorem while_by {c : TT} {tb : TS} {D : Ends} {σ : St} {H : Hp} (Pv : St → Hp → Prop) (μ : St → Hp → Nat) (h0 : Pv σ H)
    (hs : ∀ σ H, Pv σ H → c σ H fun b H1 => if b = true then tb { D with nx := fun σ' H' => Pv σ' H' ∧ μ σ' H' < μ σ H, ct := fun σ' H' => Pv σ' H' ∧ μ σ' H' < μ σ H, bk := D.nx } σ H1 else D.nx σ H1)
    (mono : ∀ σ H Q Q', (∀ b H1, Q b H1 → Q' b H1) → c σ H Q → c σ H Q') : tWhile c tb D σ H := by
  refine ⟨fun m σ H => m = μ σ H ∧ Pv σ H, ⟨_, rfl, h0⟩, ?_⟩
  rintro m σ H ⟨rfl, p⟩
  refine mono σ H _ _ (fun b H1 q => ?_) (hs σ H p)
  cases b with
  | true => exact ⟨_, fun σ' H' ⟨p', l⟩ => ⟨_, l, rfl, p'⟩, q⟩
  | false => exact q
end L2

namespace L2
open PySem PySem.Spec PyProof.Rows

abbrev R2 := V → V → Hp → VK → Prop
/-- a two-place operation on values: f is binaryOp op, inplaceOp op or compareOp op -/
def OpR (X : Cx) (f : Value → Value → Sem Value) (r : R2) : Prop :=
  ∀ (pins : List (Addr × Obj)) (s : Shared) (σ : St) (H : Hp) (x y : V) (v u : Value) (Q : VK), Inv X pins σ H s → RelV x v → RelV y u → r x y H Q →
    wpAny (model X.prog X.w) X.A (f v u) (EP X pins σ Q) X.xe s
/-- a one-place operation -/
def UnR (X : Cx) (f : Value → Sem Value) (r : V → Hp → VK → Prop) : Prop :=
  ∀ (pins : List (Addr × Obj)) (s : Shared) (σ : St) (H : Hp) (x : V) (v : Value) (Q : VK), Inv X pins σ H s → RelV x v → r x H Q →
    wpAny (model X.prog X.w) X.A (f v) (EP X pins σ Q) X.xe s
/-- a call of a value that is known (a builtin, a type) with values -/
def CallR (X : Cx) (f : Value) (r : List V → Hp → VK → Prop) : Prop :=
  ∀ (pins : List (Addr × Obj)) (s : Shared) (σ : St) (H : Hp) (xs : List V) (us : List Value) (Q : VK), Inv X pins σ H s → Vals xs us → r xs H Q →
    wpAny (model X.prog X.w) X.A (call f us) (EP X pins σ Q) X.xe s
/-- a value's truth -/
def TruR (X : Cx) (r : V → Hp → (Bool → Hp → Prop) → Prop) : Prop :=
  ∀ (pins : List (Addr × Obj)) (s : Shared) (σ : St) (H : Hp) (x : V) (v : Value) (Q : Bool → Hp → Prop), Inv X pins σ H s → RelV x v → r x H Q →
    wpAny (model X.prog X.w) X.A (truthy v) (TP X pins σ Q) X.xe s

def tOp (r : R2) (ta tb : TE) : TE := fun σ H Q => ta σ H fun x H1 => tb σ H1 fun y H2 => r x y H2 Q
def tUn (r : V → Hp → VK → Prop) (ta : TE) : TE := fun σ H Q => ta σ H fun x H1 => r x H1 Q
/-- ints in, under C, and a value out -/
def rI (C : Int → Int → Prop) (g : Int → Int → V) : R2 := fun x y H Q => ∃ i j, x = .int i ∧ y = .int j ∧ C i j ∧ Q (g i j) H
def rI0 (g : Int → Int → V) : R2 := fun x y H Q => ∃ i j, x = .int i ∧ y = .int j ∧ Q (g i j) H
def rU (g : Int → V) : V → Hp → VK → Prop := fun x H Q => ∃ i, x = .int i ∧ Q (g i) H

section
variable {X : Cx} {a b c : Expr} {ta tb tc : TE} {pos : Pos}

theorem binT (ha : PE X a ta) (hb : PE X b tb) {pins : List (Addr × Obj)} {s : Shared} {σ : St} {H : Hp} {R : V → V → Hp → Prop} (I : Inv X pins σ H s)
    (h : ta σ H fun x H1 => tb σ H1 fun y H2 => R x y H2) {Q : Value → Shared → Prop} {f : Value → Value → Sem Value}
    (hf : ∀ v u s2 x y H2, Inv X pins σ H2 s2 → RelV x v → RelV y u → R x y H2 → wpAny (model X.prog X.w) X.A (f v u) Q X.xe s2) :
    wpAny (model X.prog X.w) X.A (eval a X.env) (fun v s₁ => wpAny (model X.prog X.w) X.A (eval b X.env) (fun u s₂ => wpAny (model X.prog X.w) X.A (f v u) Q X.xe s₂) X.xe s₁) X.xe s := by
  refine thn (ha pins s σ H _ I h) fun v s1 ⟨x, H1, I1, r1, q1⟩ => ?_
  refine thn (hb pins s1 σ H1 _ I1 q1) fun u s2 ⟨y, H2, I2, r2, q2⟩ => ?_
  exact hf v u s2 x y H2 I2 r1 r2 q2

theorem pe_op {op : Operator} {r : R2} (ho : OpR X (binaryOp op) r) (ha : PE X a ta) (hb : PE X b tb) : PE X (.BinOp a op b pos) (tOp r ta tb) := by
  intro pins s σ H Q I h
  exact wpAny_BinOp (binT ha hb I h fun v u s2 x y H2 I2 rx ry q => ho pins s2 σ H2 x y v u Q I2 rx ry q)
theorem pe_un {op : UnaryOp} {r : V → Hp → VK → Prop} (ho : UnR X (unaryOp op) r) (ha : PE X a ta) : PE X (.UnaryOp op a pos) (tUn r ta) := by
  intro pins s σ H Q I h
  exact UnaryOp_ (thn (ha pins s σ H _ I h) fun v s1 ⟨x, H1, I1, r1, q1⟩ => ho pins s1 σ H1 x v Q I1 r1 q1)
/-- a op= e at a name: the name's slot i -/
theorem augR {op : Operator} {r : R2} (ho : OpR X (inplaceOp op) r) {pins : List (Addr × Obj)} {s : Shared} {σ : St} {H : Hp} {x y : V} {v u : Value} {Q : VK} (I : Inv X pins σ H s)
    (rx : RelV x v) (ry : RelV y u) (q : r x y H Q) : wpAny (model X.prog X.w) X.A (inplaceOp op v u) (EP X pins σ Q) X.xe s := ho pins s σ H x y v u Q I rx ry q

/-! ### ints -/
theorem opI {f : Value → Value → Sem Value} {C : Int → Int → Prop} {g : Int → Int → Int}
    (rule : ∀ (i j : Int) (t u : Tok) (s : Shared) (Q : Value → Shared → Prop) (E : Value → Shared → Prop), C i j → Q (.int (g i j) s.toks) { s with toks := s.toks + 1 } → wpAny (model X.prog X.w) X.A (f (.int i t) (.int j u)) Q E s) :
    OpR X f (rI C fun i j => .int (g i j)) := by
  intro pins s σ H x y v u Q I rx ry h
  obtain ⟨i, j, rfl, rfl, hc, q⟩ := h
  obtain ⟨t, rfl⟩ := rx
  obtain ⟨t', rfl⟩ := ry
  exact rule i j t t' s _ _ hc ⟨.int (g i j), H, I.tok _, ⟨_, rfl⟩, q⟩
theorem opI0 {f : Value → Value → Sem Value} {g : Int → Int → Int}
    (rule : ∀ (i j : Int) (t u : Tok) (s : Shared) (Q : Value → Shared → Prop) (E : Value → Shared → Prop), Q (.int (g i j) s.toks) { s with toks := s.toks + 1 } → wpAny (model X.prog X.w) X.A (f (.int i t) (.int j u)) Q E s) :
    OpR X f (rI0 fun i j => .int (g i j)) := by
  intro pins s σ H x y v u Q I rx ry h
  obtain ⟨i, j, rfl, rfl, q⟩ := h
  obtain ⟨t, rfl⟩ := rx
  obtain ⟨t', rfl⟩ := ry
  exact rule i j t t' s _ _ ⟨.int (g i j), H, I.tok _, ⟨_, rfl⟩, q⟩
theorem opB0 {f : Value → Value → Sem Value} {g : Int → Int → Bool}
    (rule : ∀ (i j : Int) (t u : Tok) (s : Shared) (Q : Value → Shared → Prop) (E : Value → Shared → Prop), Q (.bool (g i j)) s → wpAny (model X.prog X.w) X.A (f (.int i t) (.int j u)) Q E s) :
    OpR X f (rI0 fun i j => .bl (g i j)) := by
  intro pins s σ H x y v u Q I rx ry h
  obtain ⟨i, j, rfl, rfl, q⟩ := h
  obtain ⟨t, rfl⟩ := rx
  obtain ⟨t', rfl⟩ := ry
  exact rule i j t t' s _ _ ⟨.bl (g i j), H, I, rfl, q⟩

def CDiv (i j : Int) : Prop := 0 < j ∧ j < 1073741824
def CDivN (i j : Int) : Prop := j ≠ 0 ∧ j.natAbs < 1073741824
def CPow (i j : Int) : Prop := 0 ≤ j ∧ j ≤ 1000000 ∧ i.natAbs < 2 ^ 64
def CMul (i j : Int) : Prop := (-(2 ^ 64) < i ∧ i < 2 ^ 64) ∨ (-(2 ^ 64) < j ∧ j < 2 ^ 64)
theorem CMul.ok {i j : Int} (h : CMul i j) : IntMulOk i j := by
  rcases h with ⟨h1, h2⟩ | ⟨h1, h2⟩
  · exact .of_left (intBits_le_64 h1 h2)
  · exact .of_right (intBits_le_64 h1 h2)
theorem two_pow_nn (k : Nat) : (0 : Int) ≤ 2 ^ k := by
  rw [two_pow_cast]
  exact Int.natCast_nonneg _

theorem op_add : OpR X (binaryOp .Add) (rI0 fun i j => .int (i + j)) := opI0 fun _ _ _ _ _ _ _ q => add_int q
theorem op_sub : OpR X (binaryOp .Sub) (rI0 fun i j => .int (i - j)) := opI0 fun _ _ _ _ _ _ _ q => sub_int q
theorem op_mul : OpR X (binaryOp .Mult) (rI CMul fun i j => .int (i * j)) := opI fun _ _ _ _ _ _ _ hc q => mul_int q hc.ok
/-- // by a positive divisor -/
theorem op_fdiv : OpR X (binaryOp .FloorDiv) (rI CDiv fun i j => .int (i / j)) := opI fun i j _ _ _ _ _ hc q => by
  have h1 : (0 : Int) < j := hc.1
  have h2 : j < 1073741824 := hc.2
  exact floordiv_int (by omega) (by rw [Int.fdiv_eq_ediv_of_nonneg i (by omega)]; exact q) (.inl (PyProof.noPylong_small (by omega)))
theorem op_fdivN : OpR X (binaryOp .FloorDiv) (rI CDivN fun i j => .int (i.fdiv j)) := opI fun _ _ _ _ _ _ _ hc q => floordiv_int hc.1 q (.inl (PyProof.noPylong_small hc.2))
/-- % by a positive divisor of any size -/
theorem op_mod : OpR X (binaryOp .Mod) (rI (fun _ j => 0 < j) fun i j => .int (i % j)) := opI fun i j _ _ _ _ _ hc q => by
  have h1 : (0 : Int) < j := hc
  exact mod_int' (by omega) (by rw [Int.fmod_eq_emod_of_nonneg i (by omega)]; exact q)
theorem op_modN : OpR X (binaryOp .Mod) (rI (fun _ j => j ≠ 0) fun i j => .int (i.fmod j)) := opI fun _ _ _ _ _ _ _ hc q => mod_int' hc q
theorem op_pow : OpR X (binaryOp .Pow) (rI CPow fun i j => .int (i ^ j.toNat)) := opI fun _ _ _ _ _ _ _ hc q => pow_int_small hc.1 hc.2.1 hc.2.2 q
theorem op_shl : OpR X (binaryOp .LShift) (rI CPow fun i j => .int (i * 2 ^ j.toNat)) := opI fun _ _ _ _ _ _ _ hc q => lshift_int_small hc.1 hc.2.1 hc.2.2 q
theorem op_shr : OpR X (binaryOp .RShift) (rI (fun _ j => 0 ≤ j) fun i j => .int (i / 2 ^ j.toNat)) := opI fun i j _ _ _ _ _ hc q =>
  rshift_int hc (by rw [Int.fdiv_eq_ediv_of_nonneg i (two_pow_nn _)]; exact q)
theorem op_and : OpR X (binaryOp .BitAnd) (rI0 fun i j => .int (Builtin.bitAnd i j)) := opI0 fun _ _ _ _ _ _ _ q => and_int q
theorem op_or : OpR X (binaryOp .BitOr) (rI0 fun i j => .int (Builtin.bitOr i j)) := opI0 fun _ _ _ _ _ _ _ q => or_int q
theorem op_xor : OpR X (binaryOp .BitXor) (rI0 fun i j => .int (Builtin.bitXor i j)) := opI0 fun _ _ _ _ _ _ _ q => xor_int q

theorem iop_add : OpR X (inplaceOp .Add) (rI0 fun i j => .int (i + j)) := opI0 fun _ _ _ _ _ _ _ q => iadd_int q
theorem iop_sub : OpR X (inplaceOp .Sub) (rI0 fun i j => .int (i - j)) := opI0 fun _ _ _ _ _ _ _ q => isub_int q
theorem iop_mul : OpR X (inplaceOp .Mult) (rI CMul fun i j => .int (i * j)) := opI fun _ _ _ _ _ _ _ hc q => imul_int q hc.ok
theorem iop_fdiv : OpR X (inplaceOp .FloorDiv) (rI CDiv fun i j => .int (i / j)) := opI fun i j _ _ _ _ _ hc q => by
  have h1 : (0 : Int) < j := hc.1
  have h2 : j < 1073741824 := hc.2
  exact ifloordiv_int (by omega) (by rw [Int.fdiv_eq_ediv_of_nonneg i (by omega)]; exact q) (.inl (PyProof.noPylong_small (by omega)))
theorem iop_mod : OpR X (inplaceOp .Mod) (rI (fun _ j => 0 < j) fun i j => .int (i % j)) := opI fun i j _ _ _ _ _ hc q => by
  have h1 : (0 : Int) < j := hc
  exact imod_int (by omega) (by rw [Int.fmod_eq_emod_of_nonneg i (by omega)]; exact q)
theorem iop_shl : OpR X (inplaceOp .LShift) (rI CPow fun i j => .int (i * 2 ^ j.toNat)) := opI fun _ _ _ _ _ _ _ hc q => ilshift_int_small hc.1 hc.2.1 hc.2.2 q
theorem iop_shr : OpR X (inplaceOp .RShift) (rI (fun _ j => 0 ≤ j) fun i j => .int (i / 2 ^ j.toNat)) := opI fun i j _ _ _ _ _ hc q =>
  irshift_int hc (by rw [Int.fdiv_eq_ediv_of_nonneg i (two_pow_nn _)]; exact q)
theorem iop_and : OpR X (inplaceOp .BitAnd) (rI0 fun i j => .int (Builtin.bitAnd i j)) := opI0 fun _ _ _ _ _ _ _ q => iand_int q
theorem iop_or : OpR X (inplaceOp .BitOr) (rI0 fun i j => .int (Builtin.bitOr i j)) := opI0 fun _ _ _ _ _ _ _ q => ior_int q
theorem iop_xor : OpR X (inplaceOp .BitXor) (rI0 fun i j => .int (Builtin.bitXor i j)) := opI0 fun _ _ _ _ _ _ _ q => ixor_int q

theorem unI {f : Value → Sem Value} {g : Int → Int}
    (rule : ∀ (i : Int) (t : Tok) (s : Shared) (Q : Value → Shared → Prop) (E : Value → Shared → Prop), Q (.int (g i) s.toks) { s with toks := s.toks + 1 } → wpAny (model X.prog X.w) X.A (f (.int i t)) Q E s) :
    UnR X f (rU fun i => .int (g i)) := by
  intro pins s σ H x v Q I rx h
  obtain ⟨i, rfl, q⟩ := h
  obtain ⟨t, rfl⟩ := rx
  exact rule i t s _ _ ⟨.int (g i), H, I.tok _, ⟨_, rfl⟩, q⟩
theorem un_neg : UnR X (unaryOp .USub) (rU fun i => .int (-i)) := unI fun _ _ _ _ _ q => neg_int q
theorem un_inv : UnR X (unaryOp .Invert) (rU fun i => .int (Builtin.bitNot i)) := unI fun _ _ _ _ _ q => invert_int q

/-! ### bools among ints: n += (a < b) -/
theorem op_add_ib : OpR X (binaryOp .Add) (fun x y H Q => ∃ i k, x = .int i ∧ y = .bl k ∧ Q (.int (i + b2i k)) H) := by
  intro pins s σ H x y v u Q I rx ry h
  obtain ⟨i, k, rfl, rfl, q⟩ := h
  obtain ⟨t, rfl⟩ := rx
  cases ry
  exact add_int_bool ⟨.int (i + b2i k), H, I.tok _, ⟨_, rfl⟩, q⟩
end

/-! ### comparisons -/
/-- the scalars that == tells apart as data does -/
def scal : V → V → Bool
  | .non, .non => true | .non, .int _ => true | .int _, .non => true | .non, .bl _ => true | .bl _, .non => true | .non, .str _ => true | .str _, .non => true
  | .int _, .int _ => true | .bl _, .bl _ => true | .str _, .str _ => true | .byt _, .byt _ => true
  | .int _, .str _ => true | .str _, .int _ => true | .bl _, .str _ => true | .str _, .bl _ => true
  | _, _ => false
def rEq : R2 := fun x y H Q => scal x y = true ∧ Q (.bl (decide (x = y))) H
def rNe : R2 := fun x y H Q => scal x y = true ∧ Q (.bl (!decide (x = y))) H

theorem dec_int {i j : Int} : decide (V.int i = V.int j) = (i == j) := by
  rw [Bool.eq_iff_iff]
  simp
theorem dec_bl {i j : Bool} : decide (V.bl i = V.bl j) = (i == j) := by
  rw [Bool.eq_iff_iff]
  simp
theorem dec_str {i j : Str} : decide (V.str i = V.str j) = (i == j) := by
  rw [Bool.eq_iff_iff]
  simp
theorem dec_byt {i j : Array UInt8} : decide (V.byt i = V.byt j) = (i.toList == j.toList) := by
  rw [Bool.eq_iff_iff]
  cases i
  cases j
  simp

section
variable {X : Cx} {a b c : Expr} {ta tb tc : TE} {pos : Pos}
theorem fin_bl {pins : List (Addr × Obj)} {σ : St} {H : Hp} {s : Shared} {Q : VK} {k k' : Bool} (I : Inv X pins σ H s) (q : Q (.bl k) H) (e : k = k') : EP X pins σ Q (.bool k') s := by
  subst e
  exact ⟨.bl k, H, I, rfl, q⟩
theorem op_eq : OpR X (compareOp .Eq) rEq := by
  intro pins s σ H x y v u Q I rx ry h
  obtain ⟨hs, q⟩ := h
  cases x with
  | non =>
    cases rx
    cases y with
    | non => cases ry; exact PySem.EqNone.eq_none_none (fin_bl I q (by simp))
    | bl j => cases ry; exact PySem.EqNone.eq_none_bool (fin_bl I q (by simp))
    | int j => obtain ⟨t', rfl⟩ := ry; exact PySem.EqNone.eq_none_int (fin_bl I q (by simp))
    | str j => obtain ⟨t', rfl⟩ := ry; exact PySem.EqNone.eq_none_str (fin_bl I q (by simp))
    | _ => exact absurd (show false = true from hs) Bool.false_ne_true
  | bl i =>
    cases rx
    cases y with
    | non => cases ry; exact PySem.EqNone.eq_bool_none (fin_bl I q (by simp))
    | bl j => cases ry; exact eq_bool (fin_bl I q dec_bl)
    | str j => obtain ⟨t', rfl⟩ := ry; exact PySem.EqMixed.eq_bool_str (fin_bl I q (by simp))
    | _ => exact absurd (show false = true from hs) Bool.false_ne_true
  | int i =>
    obtain ⟨t, rfl⟩ := rx
    cases y with
    | non => cases ry; exact PySem.EqNone.eq_int_none (fin_bl I q (by simp))
    | int j => obtain ⟨t', rfl⟩ := ry; exact eq_int (fin_bl I q dec_int)
    | str j => obtain ⟨t', rfl⟩ := ry; exact PySem.EqMixed.eq_int_str (fin_bl I q (by simp))
    | _ => exact absurd (show false = true from hs) Bool.false_ne_true
  | str i =>
    obtain ⟨t, rfl⟩ := rx
    cases y with
    | non => cases ry; exact PySem.EqNone.eq_str_none (fin_bl I q (by simp))
    | bl j => cases ry; exact PySem.EqMixed.eq_str_bool (fin_bl I q (by simp))
    | int j => obtain ⟨t', rfl⟩ := ry; exact PySem.EqMixed.eq_str_int (fin_bl I q (by simp))
    | str j => obtain ⟨t', rfl⟩ := ry; exact eq_str (fin_bl I q dec_str)
    | _ => exact absurd (show false = true from hs) Bool.false_ne_true
  | byt i =>
    obtain ⟨t, rfl⟩ := rx
    cases y with
    | byt j => obtain ⟨t', rfl⟩ := ry; exact PySem.W.eq_bytes (fin_bl I q dec_byt)
    | _ => exact absurd (show false = true from hs) Bool.false_ne_true
  | _ => cases y <;> exact absurd (show false = true from hs) Bool.false_ne_true
theorem op_ne : OpR X (compareOp .NotEq) rNe := by
  intro pins s σ H x y v u Q I rx ry h
  obtain ⟨hs, q⟩ := h
  cases x with
  | non =>
    cases rx
    cases y with
    | non => cases ry; exact PySem.EqNone.ne_none_none (fin_bl I q (by simp))
    | bl j => cases ry; exact PySem.EqNone.ne_none_bool (fin_bl I q (by simp))
    | int j => obtain ⟨t', rfl⟩ := ry; exact PySem.EqNone.ne_none_int (fin_bl I q (by simp))
    | str j => obtain ⟨t', rfl⟩ := ry; exact PySem.EqNone.ne_none_str (fin_bl I q (by simp))
    | _ => exact absurd (show false = true from hs) Bool.false_ne_true
  | bl i =>
    cases rx
    cases y with
    | non => cases ry; exact PySem.EqNone.ne_bool_none (fin_bl I q (by simp))
    | bl j => cases ry; exact ne_bool (fin_bl I q (congrArg not dec_bl))
    | str j => obtain ⟨t', rfl⟩ := ry; exact PySem.EqMixed.ne_bool_str (fin_bl I q (by simp))
    | _ => exact absurd (show false = true from hs) Bool.false_ne_true
  | int i =>
    obtain ⟨t, rfl⟩ := rx
    cases y with
    | non => cases ry; exact PySem.EqNone.ne_int_none (fin_bl I q (by simp))
    | int j => obtain ⟨t', rfl⟩ := ry; exact ne_int (fin_bl I q (congrArg not dec_int))
    | str j => obtain ⟨t', rfl⟩ := ry; exact PySem.EqMixed.ne_int_str (fin_bl I q (by simp))
    | _ => exact absurd (show false = true from hs) Bool.false_ne_true
  | str i =>
    obtain ⟨t, rfl⟩ := rx
    cases y with
    | non => cases ry; exact PySem.EqNone.ne_str_none (fin_bl I q (by simp))
    | bl j => cases ry; exact PySem.EqMixed.ne_str_bool (fin_bl I q (by simp))
    | int j => obtain ⟨t', rfl⟩ := ry; exact PySem.EqMixed.ne_str_int (fin_bl I q (by simp))
    | str j => obtain ⟨t', rfl⟩ := ry; exact ne_str (fin_bl I q (congrArg not dec_str))
    | _ => exact absurd (show false = true from hs) Bool.false_ne_true
  | byt i =>
    obtain ⟨t, rfl⟩ := rx
    cases y with
    | byt j => obtain ⟨t', rfl⟩ := ry; exact PySem.W.ne_bytes (fin_bl I q (congrArg not dec_byt))
    | _ => exact absurd (show false = true from hs) Bool.false_ne_true
  | _ => cases y <;> exact absurd (show false = true from hs) Bool.false_ne_true

theorem op_lt : OpR X (compareOp .Lt) (rI0 fun i j => .bl (decide (i < j))) := opB0 fun _ _ _ _ _ _ _ q => lt_int q
theorem op_le : OpR X (compareOp .LtE) (rI0 fun i j => .bl (decide (i ≤ j))) := opB0 fun _ _ _ _ _ _ _ q => le_int q
theorem op_gt : OpR X (compareOp .Gt) (rI0 fun i j => .bl (decide (j < i))) := opB0 fun _ _ _ _ _ _ _ q => gt_int q
theorem op_ge : OpR X (compareOp .GtE) (rI0 fun i j => .bl (decide (j ≤ i))) := opB0 fun _ _ _ _ _ _ _ q => ge_int q
theorem op_lt_str : OpR X (compareOp .Lt) (fun x y H Q => ∃ i j, x = .str i ∧ y = .str j ∧ Q (.bl (decide (i.cps.toList < j.cps.toList))) H) := by
  intro pins s σ H x y v u Q I rx ry h
  obtain ⟨i, j, rfl, rfl, q⟩ := h
  obtain ⟨t, rfl⟩ := rx
  obtain ⟨t', rfl⟩ := ry
  exact lt_str (fin_bl I q rfl)
/-- the one string within the other -/
theorem op_in_str : OpR X (compareOp .In) (fun x y H Q => ∃ i j, x = .str i ∧ y = .str j ∧ Q (.bl (!(Builtin.Str.occurrences j i 0 j.length 1).isEmpty)) H) := by
  intro pins s σ H x y v u Q I rx ry h
  obtain ⟨i, j, rfl, rfl, q⟩ := h
  obtain ⟨t, rfl⟩ := rx
  obtain ⟨t', rfl⟩ := ry
  exact in_str (fin_bl I q rfl)

/-- is None, is not None: the right side a value none -/
theorem op_isN : OpR X (compareOp .Is) (fun x y H Q => y = .non ∧ Q (.bl (decide (x = .non))) H) := by
  intro pins s σ H x y v u Q I rx ry h
  obtain ⟨rfl, q⟩ := h
  cases ry
  refine is_none_gen (fin_bl I q ?_)
  cases x <;> first
    | (cases rx; rfl)
    | (obtain ⟨t, rfl⟩ := rx; rfl)
theorem op_notN : OpR X (compareOp .IsNot) (fun x y H Q => y = .non ∧ Q (.bl (!decide (x = .non))) H) := by
  intro pins s σ H x y v u Q I rx ry h
  obtain ⟨rfl, q⟩ := h
  cases ry
  refine isnot_none_gen (fin_bl I q ?_)
  cases x <;> first
    | (cases rx; rfl)
    | (obtain ⟨t, rfl⟩ := rx; rfl)

theorem op_notin_str : OpR X (compareOp .NotIn) (fun x y H Q => ∃ i j, x = .str i ∧ y = .str j ∧ Q (.bl (!(!(Builtin.Str.occurrences j i 0 j.length 1).isEmpty))) H) := by
  intro pins s σ H x y v u Q I rx ry h
  obtain ⟨i, j, rfl, rfl, q⟩ := h
  obtain ⟨t, rfl⟩ := rx
  obtain ⟨t', rfl⟩ := ry
  exact notIn_str (fin_bl I q rfl)
/-- is, is not of two objects that are tracked lists or instances -/
def isObj : HO → Bool
  | .lst _ => true
  | .ins _ _ _ => true
  | _ => false
theorem obj_there {pins : List (Addr × Obj)} {s : Shared} {σ : St} {H : Hp} {a : Addr} {o : HO} (I : Inv X pins σ H s) (h : H a = some o) (p : isObj o = true) : ∃ ob, s.heap.get? a = some ob ∧ ob.cls ≠ .type "tuple" := by
  cases o with
  | lst xs =>
    obtain ⟨_, its, n, _, e⟩ : xs.length ≤ sizeLine ∧ ∃ (its : List Value) (n : Nat), Vals xs its ∧ s.heap.get? a = some { cls := .type "list", data := .seq its.toArray n } := I.hok a _ h
    exact ⟨_, e, (by show Value.type "list" ≠ .type "tuple"; decide +kernel)⟩
  | ins C dx fs =>
    have x := I.hok a _ h
    obtain ⟨_, _, _, e, _⟩ := x
    exact ⟨_, e, (by show Value.ref C ≠ .type "tuple"; exact fun z => by cases z)⟩
  | _ => exact absurd (show false = true from p) Bool.false_ne_true
theorem op_is_ref : OpR X (compareOp .Is) (fun x y H Q => ∃ a b oa ob, x = .ref a ∧ y = .ref b ∧ H a = some oa ∧ isObj oa = true ∧ H b = some ob ∧ isObj ob = true ∧ Q (.bl (decide (a = b))) H) := by
  intro pins s σ H x y v u Q I rx ry h
  obtain ⟨a, b, oa, ob, rfl, rfl, ha, pa, hb, pb, q⟩ := h
  cases rx
  cases ry
  obtain ⟨o1, e1, n1⟩ := obj_there I ha pa
  obtain ⟨o2, e2, _⟩ := obj_there I hb pb
  by_cases z : a = b
  · subst z
    exact wpAny_is_ref_self (fin_bl I q (by simp))
  · exact wpAny_is_ref_other z e1 e2 n1 (fin_bl I q (by simp [z]))
theorem op_isnot_ref : OpR X (compareOp .IsNot) (fun x y H Q => ∃ a b oa ob, x = .ref a ∧ y = .ref b ∧ H a = some oa ∧ isObj oa = true ∧ H b = some ob ∧ isObj ob = true ∧ Q (.bl (!decide (a = b))) H) := by
  intro pins s σ H x y v u Q I rx ry h
  obtain ⟨a, b, oa, ob, rfl, rfl, ha, pa, hb, pb, q⟩ := h
  cases rx
  cases ry
  obtain ⟨o1, e1, n1⟩ := obj_there I ha pa
  obtain ⟨o2, e2, _⟩ := obj_there I hb pb
  by_cases z : a = b
  · subst z
    exact wpAny_isNot_ref_self (fin_bl I q (by simp))
  · exact wpAny_isNot_ref_other z e1 e2 n1 (fin_bl I q (by simp [z]))

/-- two rules for one operation: by cases -/
theorem OpR.or {f : Value → Value → Sem Value} {r r' : R2} (h : OpR X f r) (h' : OpR X f r') : OpR X f (fun x y H Q => r x y H Q ∨ r' x y H Q) := by
  intro pins s σ H x y v u Q I rx ry q
  rcases q with q | q
  · exact h pins s σ H x y v u Q I rx ry q
  · exact h' pins s σ H x y v u Q I rx ry q

theorem nomark (b : Expr) {op : CmpOp} (h : op ≠ .In := by decide) (h2 : op ≠ .NotIn := by decide) : behindInMarks op b = false := by
  have e1 : (op == CmpOp.In) = false := by cases op <;> first | rfl | exact absurd rfl h
  have e2 : (op == CmpOp.NotIn) = false := by cases op <;> first | rfl | exact absurd rfl h2
  cases b <;> simp [behindInMarks, e1, e2]
/-- a comparison as a value; hm: nomark b, or (for in, not in) by with_unfolding_all rfl -/
theorem pe_cmpR {op : CmpOp} {r : R2} (ho : OpR X (compareOp op) r) (ha : PE X a ta) (hb : PE X b tb) (hm : behindInMarks op b = false) : PE X (.Compare a [op] [b] pos) (tOp r ta tb) := by
  intro pins s σ H Q I h
  exact wpAny_Compare1 (binT ha hb I h fun v u s2 x y H2 I2 rx ry q => ho pins s2 σ H2 x y v u Q I2 rx ry q) hm
/-- a reading of a value as a test -/
def tTest (t : TE) : TT := fun σ H Q => t σ H fun x H' => ∃ k, x = .bl k ∧ Q k H'
theorem pt_cmpR {op : CmpOp} {r : R2} (ho : OpR X (compareOp op) r) (ha : PE X a ta) (hb : PE X b tb) (hm : behindInMarks op b = false) : PT X (.Compare a [op] [b] pos) (tTest (tOp r ta tb)) := by
  intro pins s σ H Q I h
  refine wpAny_isTrue_Compare1 (thn (ha pins s σ H _ I h) fun v s1 ⟨x, H1, I1, r1, q1⟩ => thn (hb pins s1 σ H1 _ I1 q1) fun u s2 ⟨y, H2, I2, r2, q2⟩ =>
    thn (ho pins s2 σ H2 x y v u _ I2 r1 r2 q2) fun c s3 ⟨z, H3, I3, r3, k, e, q3⟩ => ?_) hm
  subst e
  cases r3
  exact wpAny_truthy_bool ⟨H3, I3, q3⟩
/-- a op1 b op2 c -/
def tChain (r r' : R2) (ta tb tc : TE) : TE := fun σ H Q => ta σ H fun x H1 => tb σ H1 fun y H2 => r x y H2 fun z H3 => ∃ k, z = .bl k ∧
  (if k = true then tc σ H3 fun w' H4 => r' y w' H4 Q else Q (.bl false) H3)
theorem pe_chain {op op' : CmpOp} {r r' : R2} (ho : OpR X (compareOp op) r) (ho' : OpR X (compareOp op') r') (ha : PE X a ta) (hb : PE X b tb) (hc : PE X c tc)
    (hm : lastMarks [op, op'] [b, c] = false := by with_unfolding_all rfl) : PE X (.Compare a [op, op'] [b, c] pos) (tChain r r' ta tb tc) := by
  intro pins s σ H Q I h
  refine Compare_chain (thn (ha pins s σ H _ I h) fun v s1 ⟨x, H1, I1, r1, q1⟩ => chain_link (thn (hb pins s1 σ H1 _ I1 q1) fun u s2 ⟨y, H2, I2, r2, q2⟩ =>
    thn (ho pins s2 σ H2 x y v u _ I2 r1 r2 q2) fun d s3 ⟨z, H3, I3, r3, k, e, q3⟩ => ?_)) hm
  subst e
  cases r3
  refine wpAny_truthy_bool ?_
  cases k with
  | false => exact ite_ff ⟨.bl false, H3, I3, rfl, q3⟩
  | true => exact ite_tt (chain_last (thn (hc pins s3 σ H3 _ I3 q3) fun w' s4 ⟨z', H4, I4, r4, q4⟩ => ho' pins s4 σ H4 y z' u w' Q I4 r2 r4 q4))
theorem pt_chain {op op' : CmpOp} {r r' : R2} (ho : OpR X (compareOp op) r) (ho' : OpR X (compareOp op') r') (ha : PE X a ta) (hb : PE X b tb) (hc : PE X c tc)
    (hm : lastMarks [op, op'] [b, c] = false := by with_unfolding_all rfl) : PT X (.Compare a [op, op'] [b, c] pos) (tTest (tChain r r' ta tb tc)) := by
  intro pins s σ H Q I h
  refine isTrue_chain (thn (ha pins s σ H _ I h) fun v s1 ⟨x, H1, I1, r1, q1⟩ => test_link (thn (hb pins s1 σ H1 _ I1 q1) fun u s2 ⟨y, H2, I2, r2, q2⟩ =>
    thn (ho pins s2 σ H2 x y v u _ I2 r1 r2 q2) fun d s3 ⟨z, H3, I3, r3, k, e, q3⟩ => ?_)) hm
  subst e
  cases r3
  refine wpAny_truthy_bool ?_
  cases k with
  | false =>
    obtain ⟨k', e', q'⟩ := q3
    cases e'
    exact ite_ff ⟨H3, I3, q'⟩
  | true =>
    refine ite_tt (test_last (thn (hc pins s3 σ H3 _ I3 q3) fun w' s4 ⟨z', H4, I4, r4, q4⟩ => thn (ho' pins s4 σ H4 y z' u w' _ I4 r2 r4 q4) fun d' s5 ⟨z2, H5, I5, r5, k2, e2, q5⟩ => ?_))
    subst e2
    cases r5
    exact wpAny_truthy_bool ⟨H5, I5, q5⟩

/-! ### truth -/
/-- a value's truth by the abstract heap -/
def TruV (K : PySem.W.Frag) (x : V) (H : Hp) (k : Bool) : Prop :=
  match x with
  | .non => k = false
  | .bl b => k = b
  | .int i => k = (i != 0)
  | .str y => y.length ≤ sizeLine ∧ k = ((y.length : Int) != 0)
  | .byt y => y.size ≤ sizeLine ∧ k = ((y.size : Int) != 0)
  | .ref p => (∃ xs, SqL K H p xs ∧ k = !xs.isEmpty) ∨ (∃ xs, SqT K H p xs ∧ k = !xs.isEmpty) ∨ ∃ kvs, H p = some (.dK kvs) ∧ k = !kvs.isEmpty
  | _ => False
theorem isEmpty_kv {κ : Type} {kvs : List (κ × V)} {vs : List (κ × Value)} (r : KV kvs vs) : (!vs.isEmpty) = !kvs.isEmpty := by
  cases r <;> rfl
theorem isEmpty_of {xs : List V} {its : List Value} (r : Vals xs its) : (!its.toArray.isEmpty) = !xs.isEmpty := by
  cases r <;> simp
theorem line63 : (sizeLine : Nat) < 2 ^ 63 := by rw [sizeLine_eq]; decide
theorem tru_ok : TruR X (fun x H Q => ∃ k, TruV X.K x H k ∧ Q k H) := by
  intro pins s σ H x v Q I rx h
  obtain ⟨k, e, q⟩ := h
  have hl := line63
  have hs : sizeLine = 16777216 := sizeLine_eq
  cases x with
  | non =>
    cases rx
    have e' : k = false := e
    subst e'
    exact truthy_none ⟨H, I, q⟩
  | bl b =>
    cases rx
    have e' : k = b := e
    subst e'
    exact wpAny_truthy_bool ⟨H, I, q⟩
  | int i =>
    obtain ⟨t, rfl⟩ := rx
    have e' : k = (i != 0) := e
    subst e'
    exact PySem.P.truthy_int ⟨H, I, q⟩
  | str y =>
    obtain ⟨t, rfl⟩ := rx
    obtain ⟨hy, e'⟩ : y.length ≤ sizeLine ∧ k = ((y.length : Int) != 0) := e
    subst e'
    exact PySem.P.truthy_str (by omega) ⟨H, I.tok _, q⟩
  | byt y =>
    obtain ⟨t, rfl⟩ := rx
    obtain ⟨hy, e'⟩ : y.size ≤ sizeLine ∧ k = ((y.size : Int) != 0) := e
    subst e'
    exact PySem.W.truthy_bytes (by omega) ⟨H, I.tok _, q⟩
  | ref p =>
    cases rx
    have e' : (∃ xs, SqL X.K H p xs ∧ k = !xs.isEmpty) ∨ (∃ xs, SqT X.K H p xs ∧ k = !xs.isEmpty) ∨ ∃ kvs, H p = some (.dK kvs) ∧ k = !kvs.isEmpty := e
    rcases e' with ⟨xs, hx, e'⟩ | ⟨xs, hx, e'⟩ | ⟨kvs, hx, e'⟩
    · subst e'
      obtain ⟨its, r, pl, hz⟩ := I.list hx
      have hlen := r.length
      exact wpAny_truthy_list pl.isList (by simp only [List.size_toArray]; omega) ⟨H, I.tok _, by rw [isEmpty_of r]; exact q⟩
    · subst e'
      obtain ⟨its, r, pl, hz⟩ := I.tuple hx
      have hlen := r.length
      exact truthy_tuple pl (by simp only [List.size_toArray]; omega) ⟨H, I.tok _, by rw [isEmpty_of r]; exact q⟩
    · subst e'
      obtain ⟨hz, hS, vs, r, m⟩ : kvs.length ≤ sizeLine ∧ (p == sysModules) = false ∧ ∃ vs, KV kvs vs ∧ s.heap.DictOf (mixKind X.prog X.w) p vs := I.hok p _ hx
      have hlen : kvs.length = vs.length := Paired.length r
      exact wpAny_truthy_dict hS m (by omega) ⟨H, I.tok _, by rw [isEmpty_kv r]; exact q⟩
  | _ => exact (show False from e).elim
/-- any expression whose test is its value's truth (a name, a call, a subscript, a field ..: he by fun _ => rfl) -/
theorem pt_truth (ha : PE X a ta) (he : ∀ whole, isTrue a X.env whole = (do let v ← whole; standAt a.pos; holding [v] (truthy v))) :
    PT X a (fun σ H Q => ta σ H fun x H' => ∃ k, TruV X.K x H' k ∧ Q k H') := by
  intro pins s σ H Q I h
  exact isTrue_plain (thn (ha pins s σ H _ I h) fun v s1 ⟨x, H1, I1, r1, q1⟩ => tru_ok pins s1 σ H1 x v Q I1 r1 q1) (he _)

/-! ### strs and bytes -/
theorem pe_byt {x : List UInt8} {k : Nat} : PE X (.Constant (.bytes x) k pos) (fun _ H Q => Q (.byt x.toArray) H) := fun _ _ _ H _ I h => PySem.W.Constant_bytes ⟨.byt x.toArray, H, I.tok _, ⟨_, rfl⟩, h⟩
theorem op_add_str : OpR X (binaryOp .Add) (fun x y H Q => ∃ i j, x = .str i ∧ y = .str j ∧ i.length + j.length ≤ sizeLine ∧ Q (.str (i ++ j)) H) := by
  intro pins s σ H x y v u Q I rx ry h
  obtain ⟨i, j, rfl, rfl, hz, q⟩ := h
  obtain ⟨t, rfl⟩ := rx
  obtain ⟨t', rfl⟩ := ry
  exact add_str (fun t' tk => ⟨.str (i ++ j), H, I.tok _, ⟨_, rfl⟩, q⟩) hz
theorem iop_add_str : OpR X (inplaceOp .Add) (fun x y H Q => ∃ i j, x = .str i ∧ y = .str j ∧ i.length + j.length ≤ sizeLine ∧ Q (.str (i ++ j)) H) := by
  intro pins s σ H x y v u Q I rx ry h
  obtain ⟨i, j, rfl, rfl, hz, q⟩ := h
  obtain ⟨t, rfl⟩ := rx
  obtain ⟨t', rfl⟩ := ry
  exact iadd_str (fun t' tk => ⟨.str (i ++ j), H, I.tok _, ⟨_, rfl⟩, q⟩) hz
theorem op_add_byt : OpR X (binaryOp .Add) (fun x y H Q => ∃ i j, x = .byt i ∧ y = .byt j ∧ i.size + j.size ≤ 16777216 ∧ Q (.byt (i ++ j)) H) := by
  intro pins s σ H x y v u Q I rx ry h
  obtain ⟨i, j, rfl, rfl, hz, q⟩ := h
  obtain ⟨t, rfl⟩ := rx
  obtain ⟨t', rfl⟩ := ry
  exact PySem.W.KBy.add_bytes hz (fun t' tk => ⟨.byt (i ++ j), H, I.tok _, ⟨_, rfl⟩, q⟩)

def PlainIxT (b : Expr) : Prop := ∀ o i, subscripted b false o i = operate [o, i] (getItem o i)
/-- s[i], 0 ≤ i < len -/
theorem pe_item_str (ha : PE X a ta) (hb : PE X b tb) (hs : PlainIxT b) :
    PE X (.Subscript a b pos) (tOp (fun x y H Q => ∃ z i c, x = .str z ∧ y = .int i ∧ 0 ≤ i ∧ i < 2 ^ 63 ∧ i < z.length ∧ z.cps[i.toNat]? = some c ∧ Q (.str ⟨#[c]⟩) H) ta tb) := by
  intro pins s σ H Q I h
  refine Subscript_ (binT ha hb I h fun v u s2 x y H2 I2 rx ry q => ?_)
  obtain ⟨z, i, c, rfl, rfl, h0, h63, h1, hc, q⟩ := q
  obtain ⟨t, rfl⟩ := rx
  obtain ⟨t', rfl⟩ := ry
  have e : seqIndex? i z.length = some i.toNat := PySem.StrLaws.seqIndex_nonneg h0 h1
  exact tail_any (typeIs_str s2 z t) slot_str_getitem.lookup (getItem_str (c := c) (by
    have e1 : decide (i < -(2 ^ 63 : Int)) = false := decide_eq_false (by omega)
    have e2 : decide (i ≥ 2 ^ 63) = false := decide_eq_false (by omega)
    rw [e1, e2] <;> rfl) (by rw [e]; exact hc) ⟨.str ⟨#[c]⟩, H2, I2.tok _, ⟨_, rfl⟩, q⟩) (hs _ _)
/-- b[i], 0 ≤ i < len -/
theorem pe_item_byt (ha : PE X a ta) (hb : PE X b tb) (hs : PlainIxT b) :
    PE X (.Subscript a b pos) (tOp (fun x y H Q => ∃ (z : List UInt8) (i : Int), x = .byt z.toArray ∧ y = .int i ∧ z.length ≤ sizeLine ∧ 0 ≤ i ∧ i < z.length ∧ Q (.int ((z.getD i.toNat 0).toNat : Nat)) H) ta tb) := by
  intro pins s σ H Q I h
  refine Subscript_ (binT ha hb I h fun v u s2 x y H2 I2 rx ry q => ?_)
  obtain ⟨z, i, rfl, rfl, hz, h0, h1, q⟩ := q
  obtain ⟨t, rfl⟩ := rx
  obtain ⟨t', rfl⟩ := ry
  have hl : sizeLine = 16777216 := sizeLine_eq
  exact tail_any (PySem.W.typeIs_bytes s2 z.toArray t) PySem.W.FB.slot_bytes_getitem.lookup (PySem.W.getItem_bytes (by omega) h0 h1 ⟨.int ((z.getD i.toNat 0).toNat : Nat), H2, I2.tok _, ⟨_, rfl⟩, q⟩) (hs _ _)

/-! ### scalar builtins, by CallR -/
theorem vals1 {x : V} {us : List Value} (r : Vals [x] us) : ∃ u, us = [u] ∧ RelV x u := by
  cases r with
  | cons r1 r2 => cases r2; exact ⟨_, rfl, r1⟩
theorem vals2 {x y : V} {us : List Value} (r : Vals [x, y] us) : ∃ u w', us = [u, w'] ∧ RelV x u ∧ RelV y w' := by
  cases r with
  | cons r1 r2 =>
    cases r2 with
    | cons r3 r4 => cases r4; exact ⟨_, _, rfl, r1, r3⟩
theorem call_abs : CallR X (.builtin "abs") (fun xs H Q => ∃ i, xs = [.int i] ∧ Q (.int (if i < 0 then -i else i)) H) := by
  intro pins s σ H xs us Q I r h
  obtain ⟨i, rfl, q⟩ := h
  obtain ⟨u, rfl, t, rfl⟩ := vals1 r
  exact call_abs_int fun u tk => ⟨.int (if i < 0 then -i else i), H, I.tok _, ⟨_, rfl⟩, q⟩
theorem call_max2 (hc : X.calm = true) : CallR X (.builtin "max") (fun xs H Q => ∃ i j, xs = [.int i, .int j] ∧ Q (.int (if j > i then j else i)) H) := by
  intro pins s σ H xs us Q I r h
  obtain ⟨i, j, rfl, q⟩ := h
  obtain ⟨u, w', rfl, ⟨t, rfl⟩, ⟨t', rfl⟩⟩ := vals2 r
  refine max_two_ints (I.ok.hd hc) fun h' tk k => ⟨_, H, I.kept k, ?_, q⟩
  by_cases hj : j > i
  · rw [if_pos hj, if_pos hj]; exact ⟨_, rfl⟩
  · rw [if_neg hj, if_neg hj]; exact ⟨_, rfl⟩
theorem call_min2 (hc : X.calm = true) : CallR X (.builtin "min") (fun xs H Q => ∃ i j, xs = [.int i, .int j] ∧ Q (.int (if j < i then j else i)) H) := by
  intro pins s σ H xs us Q I r h
  obtain ⟨i, j, rfl, q⟩ := h
  obtain ⟨u, w', rfl, ⟨t, rfl⟩, ⟨t', rfl⟩⟩ := vals2 r
  refine min_two_ints (I.ok.hd hc) fun h' tk k => ⟨_, H, I.kept k, ?_, q⟩
  by_cases hj : j < i
  · rw [if_pos hj, if_pos hj]; exact ⟨_, rfl⟩
  · rw [if_neg hj, if_neg hj]; exact ⟨_, rfl⟩
theorem call_int1 : CallR X (.type "int") (fun xs H Q => (∃ i, xs = [.int i] ∧ Q (.int i) H) ∨ ∃ k, xs = [.bl k] ∧ Q (.int (if k then 1 else 0)) H) := by
  intro pins s σ H xs us Q I r h
  rcases h with ⟨i, rfl, q⟩ | ⟨k, rfl, q⟩
  · obtain ⟨u, rfl, t, rfl⟩ := vals1 r
    exact call_int_int ⟨.int i, H, I, ⟨_, rfl⟩, q⟩
  · obtain ⟨u, rfl, r1⟩ := vals1 r
    cases r1
    exact call_int_bool ⟨.int (if k then 1 else 0), H, I.tok _, ⟨_, rfl⟩, q⟩
theorem call_bool1 : CallR X (.type "bool") (fun xs H Q => (∃ i, xs = [.int i] ∧ Q (.bl (i != 0)) H) ∨ ∃ k, xs = [.bl k] ∧ Q (.bl k) H) := by
  intro pins s σ H xs us Q I r h
  rcases h with ⟨i, rfl, q⟩ | ⟨k, rfl, q⟩
  · obtain ⟨u, rfl, t, rfl⟩ := vals1 r
    exact call_bool_int ⟨.bl (i != 0), H, I, rfl, q⟩
  · obtain ⟨u, rfl, r1⟩ := vals1 r
    cases r1
    exact call_bool_bool ⟨.bl k, H, I, rfl, q⟩
theorem call_str_int : CallR X (.type "str") (fun xs H Q => ∃ i, xs = [.int i] ∧ i.natAbs.log2 < 1920 ∧ Q (.str (toString i)) H) := by
  intro pins s σ H xs us Q I r h
  obtain ⟨i, rfl, hz, q⟩ := h
  obtain ⟨u, rfl, t, rfl⟩ := vals1 r
  exact PySem.P.str_of_int hz ⟨.str _, H, I.tok _, ⟨_, rfl⟩, q⟩
theorem call_ord : CallR X (.builtin "ord") (fun xs H Q => ∃ x, xs = [.str x] ∧ x.length = 1 ∧ Q (.int (x.cps.getD 0 0 : Nat)) H) := by
  intro pins s σ H xs us Q I r h
  obtain ⟨x, rfl, hz, q⟩ := h
  obtain ⟨u, rfl, t, rfl⟩ := vals1 r
  exact ord_of_one hz ⟨.int _, H, I.tok _, ⟨_, rfl⟩, q⟩
theorem call_chr : CallR X (.builtin "chr") (fun xs H Q => ∃ i, xs = [.int i] ∧ 0 ≤ i ∧ i ≤ 1114111 ∧ Q (.str ⟨#[i.toNat]⟩) H) := by
  intro pins s σ H xs us Q I r h
  obtain ⟨i, rfl, h0, h1, q⟩ := h
  obtain ⟨u, rfl, t, rfl⟩ := vals1 r
  exact chr_of_range h0 h1 ⟨.str _, H, I.tok _, ⟨_, rfl⟩, q⟩
/-- len of a str, a bytes, a list, a tuple -/
def LenV (K : PySem.W.Frag) (x : V) (H : Hp) (n : Nat) : Prop :=
  match x with
  | .str y => y.length ≤ sizeLine ∧ n = y.length
  | .byt y => y.size ≤ sizeLine ∧ n = y.size
  | .ref p => (∃ xs, SqL K H p xs ∧ n = xs.length) ∨ ∃ xs, SqT K H p xs ∧ n = xs.length
  | _ => False
theorem call_len : CallR X (.builtin "len") (fun xs H Q => ∃ x n, xs = [x] ∧ LenV X.K x H n ∧ Q (.int n) H) := by
  intro pins s σ H xs us Q I r h
  obtain ⟨x, n, rfl, e, q⟩ := h
  obtain ⟨u, rfl, rx⟩ := vals1 r
  have hl := line63
  have hs : sizeLine = 16777216 := sizeLine_eq
  cases x with
  | str y =>
    obtain ⟨t, rfl⟩ := rx
    obtain ⟨hy, e'⟩ : y.length ≤ sizeLine ∧ n = y.length := e
    subst e'
    exact len_str (by omega) ⟨.int _, H, I.tok _, ⟨_, rfl⟩, q⟩
  | byt y =>
    obtain ⟨t, rfl⟩ := rx
    obtain ⟨hy, e'⟩ : y.size ≤ sizeLine ∧ n = y.size := e
    subst e'
    exact PySem.W.len_bytes (by omega) ⟨.int _, H, I.tok _, ⟨_, rfl⟩, q⟩
  | ref p =>
    cases rx
    have e' : (∃ xs, SqL X.K H p xs ∧ n = xs.length) ∨ ∃ xs, SqT X.K H p xs ∧ n = xs.length := e
    rcases e' with ⟨xs, hx, e'⟩ | ⟨xs, hx, e'⟩
    · subst e'
      obtain ⟨its, r', pl, hz⟩ := I.list hx
      have hlen := r'.length
      exact Calls.call_len_list pl.isList (by simp only [List.size_toArray]; omega) ⟨.int xs.length, H, I.tok _, ⟨_, by simp only [List.size_toArray]; rw [hlen]⟩, q⟩
    · subst e'
      obtain ⟨its, r', pl, hz⟩ := I.tuple hx
      have hlen := r'.length
      exact len_tuple pl (by simp only [List.size_toArray]; omega) ⟨.int xs.length, H, I.tok _, ⟨_, by simp only [List.size_toArray]; rw [hlen]⟩, q⟩
  | _ => exact (show False from e).elim
/-- divmod: a new tuple -/
theorem call_divmod : CallR X (.builtin "divmod") (fun xs H Q => ∃ i j, xs = [.int i, .int j] ∧ CDiv i j ∧ ∀ p, H p = none → Q (.ref p) (upd H p (.tup [.int (i / j), .int (i % j)]))) := by
  intro pins s σ H xs us Q I r h
  obtain ⟨i, j, rfl, ⟨h1, h2⟩, q⟩ := h
  obtain ⟨u, w', rfl, ⟨t, rfl⟩, ⟨t', rfl⟩⟩ := vals2 r
  refine divmod_int (by omega) ?_ (.inl (PyProof.noPylong_small (by omega)))
  rw [Int.fdiv_eq_ediv_of_nonneg i (by omega), Int.fmod_eq_emod_of_nonneg i (by omega)]
  have hn : H s.heap.objs.size = none := I.hok.fresh (Nat.le_refl _)
  refine ⟨.ref s.heap.objs.size, _, ?_, rfl, q _ hn⟩
  refine I.laid (fun b o e => Heap.get?_push_of_some _ e) (Nat.le_refl _) ⟨by simp only [List.length_cons, List.length_nil]; rw [sizeLine_eq]; decide, [.int (i / j) s.toks, .int (i % j) (s.toks + 1)], .cons ⟨_, rfl⟩ (.cons ⟨_, rfl⟩ .nil), ?_⟩
  exact ⟨_, Heap.get?_push_size s.heap rfl, rfl, 0, rfl, rfl⟩
end
end L2

namespace L2
open PySem PySem.Spec PyProof.Rows

/-! ### an instance, its attributes a map -/
structure ObjM (h : Heap) (x dx C : Addr) (mA : Str → Option Value) : Prop where
  obj : h.get? x = some (PySem.W.instObj C dx)
  ns : h.Ns1 dx mA
  ne : dx ≠ x

theorem lookIn_ns {h : Heap} {dx : Addr} {mA : Str → Option Value} (n : h.Ns1 dx mA) : ∃ od, h.get? dx = some od ∧ ∀ name, PySem.W.lookIn name od = some (mA name) := by
  obtain ⟨o, es, ep, ho, hd, hk, _, hm⟩ := n
  refine ⟨o, ho, fun name => ?_⟩
  have e := hm name
  unfold nsFind findBy at e
  rw [← Array.find?_toList] at e
  unfold PySem.W.lookIn
  rw [hd]
  dsimp only
  split
  · rename_i y q
    rw [q] at e
    exact congrArg some e
  · rename_i q
    rw [q] at e
    have a : es.toList.any (·.refKey) = false := by
      rw [List.any_eq_false]
      intro y hy
      obtain ⟨z, t, hkey⟩ := hk y (Array.mem_toList_iff.mp hy)
      simp [DictEntry.refKey, hkey]
    have a' : ¬ es.toList.any (·.refKey) = true := by rw [a]; exact Bool.false_ne_true
    rw [if_neg a']
    exact congrArg some e

theorem ObjM.look {h : Heap} {x dx C : Addr} {mA : Str → Option Value} (I : ObjM h x dx C mA) : ∃ od, PySem.W.InstAt h x (PySem.W.instObj C dx) C (some od) ∧ ∀ name, PySem.W.lookIn name od = some (mA name) :=
  let ⟨od, ho, hl⟩ := lookIn_ns I.ns
  ⟨od, ⟨I.obj, rfl, rfl, ho⟩, hl⟩

section
variable {prog : Program} {w : World} {A : Around} {E : Value → Shared → Prop} {s : Shared} {K : PySem.W.Frag} {x dx C f : Addr} {mA : Str → Option Value} {name : Str} {v : Value}

theorem get_map {expr : Bool} {Q : Value → Shared → Prop} (X : K.In s.heap) (I : ObjM s.heap x dx C mA) (hg : PySem.W.plainGet K C name = true) (hh : PySem.W.hasDictIn K C = true)
    (ha : PySem.W.findIn K (.ref C) name = some none) (hv : mA name = some v) (hv' : PySem.W.handedIn v = true) (h : Q v { s with toks := s.toks + 1 }) :
    wpAny (model prog w) A (getAttr (.ref x) name expr) Q E s := by
  obtain ⟨od, J, hl⟩ := I.look
  exact PySem.W.get_value X J (PySem.W.plainGet_of hg).1 (PySem.W.findObj_own hh ha rfl (by rw [hl, hv])) hv' h

theorem get_const {expr : Bool} {a : Value} {Q : Value → Shared → Prop} (X : K.In s.heap) (I : ObjM s.heap x dx C mA) (hg : PySem.W.plainGet K C name = true) (hh : PySem.W.hasDictIn K C = true)
    (ha : PySem.W.findIn K (.ref C) name = some (some a)) (hn : PySem.W.specialIn K a "__get__" = some none) (hc : PySem.W.copiedNames.contains name = false) (hv : mA name = none) (hv' : PySem.W.handedIn a = true)
    (h : Q a { s with toks := s.toks + 1 }) : wpAny (model prog w) A (getAttr (.ref x) name expr) Q E s := by
  obtain ⟨od, J, hl⟩ := I.look
  exact PySem.W.get_value X J (PySem.W.plainGet_of hg).1 (PySem.W.findObj_cls hh ha hn hv' hc (by rw [hl, hv])) hv' h

theorem get_meth {pl : Sem Bool} {Q : Value × List Value → Shared → Prop} (X : K.In s.heap) (I : ObjM s.heap x dx C mA) (hg : PySem.W.plainGet K C name = true)
    (hf : PySem.W.findIn K (.ref C) name = some (some (.ref f))) (ht : PySem.W.isFn K (.ref f) = true) (hv : mA name = none) (h : Q (.ref f, [.ref x]) s) :
    wpAny (model prog w) A (getMethod (.ref x) name pl) Q E s := by
  obtain ⟨od, J, hl⟩ := I.look
  exact PySem.W.method_fn X J (PySem.W.plainGet_of hg).1 (PySem.W.plainGet_of hg).2 hf (beq_iff_eq.mp ht) (by show (PySem.W.lookIn name od).map (·.isSome) = some false; rw [hl, hv]; rfl) h

theorem set_map {ns : List Str} {Q : Unit → Shared → Prop} (X : K.In s.heap) (I : ObjM s.heap x dx C mA)
    (hs : PySem.W.findIn K (.ref C) "__setattr__" = some (some (.builtin "object.__setattr__"))) (hp : PySem.W.plainOver K C = true) (ht : PySem.W.takerIn K C name = some none) (hh : PySem.W.hasDictIn K C = true)
    (hw : PySem.Within mA ns) (hsz : ns.length ≤ sizeLine)
    (h : ∀ h', ObjM h' x dx C (fun y => if y = name then some v else mA y) → Heap.SameBut dx s.heap h' → Q () { s with heap := h', toks := s.toks + 2 }) :
    wpAny (model prog w) A (setAttr (.ref x) name v) Q E s := by
  obtain ⟨od, J, hl⟩ := I.look
  refine PySem.W.set_plain X J hs (PySem.W.osa_open (s := { s with toks := s.toks + 1 }) (r := none) X J hp ht fun b => ?_)
  obtain ⟨cd, hc, hd'⟩ := PySem.W.any_some hh
  have hx : s.heap.get? x = some ⟨.ref C, some dx, .plain, #[]⟩ := I.obj
  refine wpAny_bind (wpAny_pure (wpAny_bind (wpAny_bind (wpAny_loadPart hx (wpAny_bind (PySem.W.Looks.here (s := { s with toks := s.toks + 1 }) (PySem.W.looks_clsIn X hc) ?_))))))
  rw [hd']
  refine wpAny_pure (a := some dx) (wpAny_bind (wpAny_pure (wpAny_bind ?_)))
  refine wpAny_nsSet1 (s := { s with toks := s.toks + 1 }) I.ns fun h' hn2 hs2 => ?_
  obtain ⟨oD, esD, epD, hoD, hdD, hcD⟩ := hn2.count (PySem.Within.cons name v hw)
  refine wpAny_bind (wpAny_lookBehind hoD (by rw [hdD]; exact pastItsLine_dict (Nat.le_trans hcD (by rw [List.length_cons]; omega))) ?_)
  exact wpAny_pure (h _ ⟨(hs2.2 _ (Ne.symm I.ne)).trans I.obj, hn2, I.ne⟩ hs2)

/-- C(..): the dict at the heap's end, the instance behind it; then its __init__ -/
theorem make_map {R : Result → Shared → Prop} {vs : List Value} {kw : List (Str × Value)} (X : K.In s.heap) (hm : PySem.W.makesIn K C = true)
    (hi : PySem.W.findIn K (.ref C) "__init__" = some (some (.ref f))) (hf : PySem.W.typeIn K (.ref f) = some (.type "function"))
    (h : codeAny (model prog w) (A.under (.builtin "type.__call__" ⟨.ref C :: vs, kw⟩)) (.call (.ref f) ⟨.ref (s.heap.objs.size + 1) :: vs, kw⟩) (PySem.W.InitBack (s.heap.objs.size + 1) R)
      { s with heap := (s.heap.push PySem.W.emptyDict).push (PySem.W.instObj C s.heap.objs.size) }) :
    codeAny (model prog w) A (.call (.ref C) ⟨vs, kw⟩) R s := by
  obtain ⟨hh, g, d, t, os⟩ := s
  exact PySem.W.make_core (PySem.W.makes_of X hm) (PySem.W.looks_findIn X hi) (fun self => PySem.W.bind_fn X self hf) (.inl rfl) h
/-- C() where there is no __init__ but object's -/
theorem make_map0 {R : Result → Shared → Prop} (X : K.In s.heap) (hm : PySem.W.makesIn K C = true)
    (hi : PySem.W.findIn K (.ref C) "__init__" = some (some (.builtin "object.__init__")))
    (hb : ∀ self, PySem.W.Looks (model prog w) s.heap (bindSpecial (.builtin "object.__init__") self) (.builtin "object.__init__", [self]))
    (h : codeAny (model prog w) (A.under (.builtin "type.__call__" ⟨[.ref C], []⟩)) (.call (.builtin "object.__init__") ⟨[.ref (s.heap.objs.size + 1)], []⟩) (PySem.W.InitBack (s.heap.objs.size + 1) R)
      { s with heap := (s.heap.push PySem.W.emptyDict).push (PySem.W.instObj C s.heap.objs.size) }) :
    codeAny (model prog w) A (.call (.ref C) ⟨[], []⟩) R s := by
  obtain ⟨hh, g, d, t, os⟩ := s
  exact PySem.W.make_core (PySem.W.makes_of X hm) (PySem.W.looks_findIn X hi) hb (.inr ⟨rfl, rfl⟩) h
end

/-! ### the attributes as a list of pairs -/
def putF (f : Str) (v : V) : List (Str × V) → List (Str × V)
  | [] => [(f, v)]
  | (g, x) :: r => if g = f then (g, v) :: r else (g, x) :: putF f v r
theorem lookup_putF (f g : Str) (v : V) : ∀ fs : List (Str × V), (putF f v fs).lookup g = if g = f then some v else fs.lookup g
  | [] => by
    show List.lookup g [(f, v)] = _
    by_cases h : g = f
    · have hb : (g == f) = true := beq_iff_eq.mpr h
      simp only [List.lookup, hb, if_pos h]
    · have hb : (g == f) = false := beq_eq_false_iff_ne.mpr h
      simp only [List.lookup, hb, if_neg h]
  | (k, x) :: r => by
    have ih := lookup_putF f g v r
    rw [show putF f v ((k, x) :: r) = (if k = f then (k, v) :: r else (k, x) :: putF f v r) from rfl]
    by_cases hk : k = f
    · rw [if_pos hk]
      by_cases h : g = k
      · have hb : (g == k) = true := beq_iff_eq.mpr h
        simp only [List.lookup, hb, if_pos (h.trans hk)]
      · have hb : (g == k) = false := beq_eq_false_iff_ne.mpr h
        simp only [List.lookup, hb, if_neg (fun e : g = f => h (e.trans hk.symm))]
    · rw [if_neg hk]
      by_cases h : g = k
      · have hb : (g == k) = true := beq_iff_eq.mpr h
        simp only [List.lookup, hb, if_neg (fun e : g = f => hk (h.symm.trans e))]
      · have hb : (g == k) = false := beq_eq_false_iff_ne.mpr h
        simp only [List.lookup, hb]
        exact ih
theorem keys_putF (f : Str) (v : V) : ∀ fs : List (Str × V), f ∈ (putF f v fs).map (·.1) ∧ ∀ g, g ∈ fs.map (·.1) → g ∈ (putF f v fs).map (·.1)
  | [] => ⟨by simp [putF], fun g h => by simp at h⟩
  | (k, x) :: r => by
    obtain ⟨i1, i2⟩ := keys_putF f v r
    rw [show putF f v ((k, x) :: r) = (if k = f then (k, v) :: r else (k, x) :: putF f v r) from rfl]
    by_cases hk : k = f
    · rw [if_pos hk]
      subst hk
      exact ⟨by simp, fun g h => by simpa using h⟩
    · rw [if_neg hk]
      refine ⟨?_, fun g h => ?_⟩
      · rw [List.map_cons]
        exact List.mem_cons_of_mem _ i1
      · rw [List.map_cons] at h ⊢
        rcases List.mem_cons.mp h with e | e
        · exact List.mem_cons.mpr (.inl e)
        · exact List.mem_cons_of_mem _ (i2 g e)
theorem length_putF (f : Str) (v : V) : ∀ fs : List (Str × V), (putF f v fs).length ≤ fs.length + 1
  | [] => by simp [putF]
  | (k, x) :: r => by
    have ih := length_putF f v r
    rw [show putF f v ((k, x) :: r) = (if k = f then (k, v) :: r else (k, x) :: putF f v r) from rfl]
    by_cases hk : k = f
    · rw [if_pos hk, List.length_cons, List.length_cons]; omega
    · rw [if_neg hk, List.length_cons, List.length_cons]; omega

theorem RelO.some_of {v : V} {o : Option Value} (r : RelO (some v) o) : ∃ u, o = some u ∧ RelV v u := by
  cases o with
  | none => exact (show False from r).elim
  | some u => exact ⟨u, rfl, r⟩
theorem RelO.none_of {o : Option Value} (r : RelO none o) : o = none := by
  cases o with
  | none => rfl
  | some u => exact (show False from r).elim
theorem handed_of {v : V} {u : Value} (r : RelV v u) : PySem.W.handedIn u = true := by
  cases v with
  | non => cases (show u = Value.none from r); rfl
  | bl b => cases (show u = Value.bool b from r); rfl
  | int i => obtain ⟨t, e⟩ := (show ∃ t, u = Value.int i t from r); cases e; rfl
  | str x => obtain ⟨t, e⟩ := (show ∃ t, u = Value.str x t from r); cases e; rfl
  | byt b => obtain ⟨t, e⟩ := (show ∃ t, u = Value.bytes b t from r); cases e; rfl
  | flt b => obtain ⟨t, e⟩ := (show ∃ t, u = Value.float b t from r); cases e; rfl
  | ref a => cases (show u = Value.ref a from r); rfl
  | ty n => cases (show u = Value.type n from r); rfl

section
variable {P : Program} {w : World} {H H' : Hp} {h h' : Heap} {a C dx : Addr} {fs fs' : List (Str × V)}
theorem ins_get (hok : HOk P w H h) (e : H a = some (.ins C dx fs)) : ∃ mA, ObjM h a dx C mA ∧ (∀ f, RelO (fs.lookup f) (mA f)) ∧ PySem.Within mA (fs.map (·.1)) ∧ fs.length ≤ 1000 ∧ H dx = some (.own a) := by
  obtain ⟨d, z, ne, ob, mA, n, r, q⟩ := (show ObjOk P w H h a (.ins C dx fs) from hok a _ e)
  exact ⟨mA, ⟨ob, n, ne⟩, r, q, z, d⟩
end

/-! ### what of the text a class must have -/
structure Cls (K : PySem.W.Frag) (C : Addr) : Prop where
  pg : PySem.W.plainGet K C Str.empty = true
  hd : PySem.W.hasDictIn K C = true
  po : PySem.W.plainOver K C = true
  sa : PySem.W.findIn K (.ref C) "__setattr__" = some (some (.builtin "object.__setattr__"))
theorem Cls.get {K : PySem.W.Frag} {C : Addr} (c : Cls K C) (f : Str) : PySem.W.plainGet K C f = true := c.pg
/-- no class of it has the name -/
def NoAttr (K : PySem.W.Frag) (C : Addr) (f : Str) : Prop := PySem.W.findIn K (.ref C) f = some none
theorem NoAttr.taker {K : PySem.W.Frag} {C : Addr} {f : Str} (n : NoAttr K C f) : PySem.W.takerIn K C f = some none := by
  unfold PySem.W.takerIn
  rw [show PySem.W.findIn K (.ref C) f = some none from n]
  rfl
/-- a constant of the class -/
structure Con (K : PySem.W.Frag) (C : Addr) (f : Str) (v : V) (u : Value) : Prop where
  at_ : PySem.W.findIn K (.ref C) f = some (some u)
  rel : RelV v u
  get : PySem.W.specialIn K u "__get__" = some none
  cp : PySem.W.copiedNames.contains f = false
/-- a method: a plain def of the class or of one above it -/
structure Meth (K : PySem.W.Frag) (C : Addr) (m : Str) (f : Addr) : Prop where
  at_ : PySem.W.findIn K (.ref C) m = some (some (.ref f))
  fn : PySem.W.isFn K (.ref f) = true
  kp : PySem.W.keepIn K (.ref f) = true

section
variable {X : Cx} {pins : List (Addr × Obj)} {σ : St} {H : Hp} {s : Shared} {a C dx : Addr} {fs : List (Str × V)} {f : Str} {v : V} {A : Around} {E : Value → Shared → Prop}

theorem getattr_ok {b : Bool} {Q : Value → Shared → Prop} (I : Inv X pins σ H s) (e : H a = some (.ins C dx fs)) (c : Cls X.K C) (n : NoAttr X.K C f) (l : fs.lookup f = some v)
    (h : ∀ u s', Inv X pins σ H s' → RelV v u → Q u s') : wpAny (model X.prog X.w) A (getAttr (.ref a) f b) Q E s := by
  obtain ⟨mA, O, r, _, _, _⟩ := ins_get I.hok e
  obtain ⟨u, hu, ru⟩ := RelO.some_of (v := v) (o := mA f) (by rw [← l]; exact r f)
  exact get_map I.kIn O (c.get f) c.hd n hu (handed_of ru) (h u _ (I.tok _) ru)

theorem getcon_ok {b : Bool} {u : Value} {Q : Value → Shared → Prop} (I : Inv X pins σ H s) (e : H a = some (.ins C dx fs)) (c : Cls X.K C) (k : Con X.K C f v u) (l : fs.lookup f = none)
    (h : ∀ s', Inv X pins σ H s' → Q u s') : wpAny (model X.prog X.w) A (getAttr (.ref a) f b) Q E s := by
  obtain ⟨mA, O, r, _, _, _⟩ := ins_get I.hok e
  have hn : mA f = none := RelO.none_of (by rw [← l]; exact r f)
  exact get_const I.kIn O (c.get f) c.hd k.at_ k.get k.cp hn (handed_of k.rel) (h _ (I.tok _))

theorem getmeth_ok {m : Str} {g : Addr} {pl : Sem Bool} {Q : Value × List Value → Shared → Prop} (I : Inv X pins σ H s) (e : H a = some (.ins C dx fs)) (c : Cls X.K C) (k : Meth X.K C m g) (l : fs.lookup m = none)
    (h : Q (.ref g, [.ref a]) s) : wpAny (model X.prog X.w) A (getMethod (.ref a) m pl) Q E s := by
  obtain ⟨mA, O, r, _, _, _⟩ := ins_get I.hok e
  have hn : mA m = none := RelO.none_of (by rw [← l]; exact r m)
  exact get_meth I.kIn O (c.get m) k.at_ k.fn hn h

theorem setattr_ok {y : V} {u : Value} {Q : Unit → Shared → Prop} (I : Inv X pins σ H s) (e : H a = some (.ins C dx fs)) (c : Cls X.K C) (n : NoAttr X.K C f) (hl : fs.length < 1000) (ry : RelV y u)
    (h : ∀ s', Inv X pins σ (upd H a (.ins C dx (putF f y fs))) s' → Q () s') : wpAny (model X.prog X.w) A (setAttr (.ref a) f u) Q E s := by
  obtain ⟨mA, O, r, wi, _, ho⟩ := ins_get I.hok e
  have hz : (fs.map (·.1)).length ≤ sizeLine := by rw [List.length_map, sizeLine_eq]; omega
  refine set_map I.kIn O c.sa c.po n.taker c.hd wi hz fun h' O' sb => h _ ?_
  have hd : ∃ o, h'.get? dx = some o := let ⟨o, _, _, e', _⟩ := O'.ns; ⟨o, e'⟩
  refine I.write (x := a) (e := dx) (by rw [e]; exact True.intro) (.inr ho) (fun b q hb z => (sb.2 b hb).trans z) hd ?_
  refine ⟨by rw [upd_ne O.ne]; exact ho, ?_, O.ne, O'.obj, _, O'.ns, fun g => ?_, fun g hg => ?_⟩
  · have := length_putF f y fs; omega
  · show RelO ((putF f y fs).lookup g) (if g = f then some u else mA g)
    rw [lookup_putF]
    by_cases q : g = f
    · rw [if_pos q, if_pos q]; exact ry
    · rw [if_neg q, if_neg q]; exact r g
  · by_cases q : g = f
    · rw [q]; exact (keys_putF f y fs).1
    · refine (keys_putF f y fs).2 g (wi g fun z => hg ?_)
      show (if g = f then some u else mA g) = none
      rw [if_neg q]; exact z

/-- a new instance, tracked, without attributes -/
theorem Inv.made (I : Inv X pins σ H s) : Inv X pins σ (upd (upd H s.heap.objs.size (.own (s.heap.objs.size + 1))) (s.heap.objs.size + 1) (.ins C s.heap.objs.size []))
    { s with heap := (s.heap.push PySem.W.emptyDict).push (PySem.W.instObj C s.heap.objs.size) } := by
  have e1 : (s.heap.push PySem.W.emptyDict).get? s.heap.objs.size = some PySem.W.emptyDict := Heap.get?_push_size s.heap rfl
  have e2 : ((s.heap.push PySem.W.emptyDict).push (PySem.W.instObj C s.heap.objs.size)).get? (s.heap.objs.size + 1) = some (PySem.W.instObj C s.heap.objs.size) := by
    have := Heap.get?_push_size (s.heap.push PySem.W.emptyDict) (o := PySem.W.instObj C s.heap.objs.size) rfl
    rwa [Heap.size_push] at this
  have e3 : (s.heap.push PySem.W.emptyDict).Ns s.heap.objs.size (fun _ => none) := ⟨PySem.W.emptyDict, #[], _, e1, rfl, (fun e he => absurd he (by simp)), fun _ => rfl⟩
  have I1 := I.laid (a := s.heap.objs.size) (o := .own (s.heap.objs.size + 1)) (h' := s.heap.push PySem.W.emptyDict) (t' := s.toks) (fun b u q => Heap.get?_push_of_some _ q) (Nat.le_refl _) ⟨_, e1⟩
  refine I1.laid (a := s.heap.objs.size + 1) (o := .ins C s.heap.objs.size []) (t' := s.toks) (fun b u q => Heap.get?_push_of_some _ q) (Nat.le_of_eq (Heap.size_push _ _)) ?_
  have ne : s.heap.objs.size ≠ s.heap.objs.size + 1 := Nat.ne_of_lt (Nat.lt_succ_self _)
  refine ⟨by rw [upd_ne ne, upd_same], Nat.zero_le _, ne, e2, fun _ => none, (Heap.Ns1.of_empty e3).at fun o q => Heap.get?_push_of_some _ q, fun _ => True.intro, fun y hy => absurd rfl hy⟩

/-- e.f where nothing but the object is asked: through attributeBase (super) and the last hold -/
theorem attr_of {prog : Program} {w : World} {env : Env} {e : Expr} {f : Str} {pos : Pos} {s : Shared} {Q : Value → Shared → Prop} (hb : attributeBase e f env (eval e env) = eval e env)
    (h : wpAny (model prog w) A (eval e env) (fun o s₁ => wpAny (model prog w) A (getAttr o f true) Q E s₁) E s) : wpAny (model prog w) A (eval (.Attribute e f pos) env) Q E s :=
  Attribute_any_ h (by rw [arm_eval_Attribute, hb])
end

/-! ### readings and rules -/
/-- e.f, an attribute of the instance -/
def tFld (K : PySem.W.Frag) (ta : TE) (f : Str) : TE := fun σ H Q => ta σ H fun x H1 => ∃ a C dx fs v, x = .ref a ∧ H1 a = some (.ins C dx fs) ∧ Cls K C ∧ NoAttr K C f ∧ fs.lookup f = some v ∧ Q v H1
/-- e.f, a constant of the class -/
def tCon (K : PySem.W.Frag) (ta : TE) (f : Str) : TE := fun σ H Q => ta σ H fun x H1 => ∃ a C dx fs v u, x = .ref a ∧ H1 a = some (.ins C dx fs) ∧ Cls K C ∧ Con K C f v u ∧ fs.lookup f = none ∧ Q v H1
/-- e.f = value -/
def sFld (K : PySem.W.Frag) (ta tv : TE) (f : Str) : TS := fun D σ H => tv σ H fun y H1 => ta σ H1 fun x H2 => ∃ a C dx fs, x = .ref a ∧ H2 a = some (.ins C dx fs) ∧ Cls K C ∧ NoAttr K C f ∧ fs.length < 1000 ∧
  D.nx σ (upd H2 a (.ins C dx (putF f y fs)))
/-- an augmented operator on two values -/
def InOp (X : Cx) (op : Operator) (rd : V → V → Hp → VK → Prop) : Prop :=
  ∀ (pins : List (Addr × Obj)) (s : Shared) (σ : St) (H : Hp) (x y : V) (u v : Value) (Q : VK), Inv X pins σ H s → RelV x u → RelV y v → rd x y H Q → wpAny (model X.prog X.w) X.A (inplaceOp op u v) (EP X pins σ Q) X.xe s
/-- e.f op= value -/
def sFldAug (K : PySem.W.Frag) (ta tv : TE) (rd : V → V → Hp → VK → Prop) (f : Str) : TS := fun D σ H => ta σ H fun x H1 => ∃ a C dx fs v, x = .ref a ∧ H1 a = some (.ins C dx fs) ∧ Cls K C ∧ NoAttr K C f ∧ fs.lookup f = some v ∧
  tv σ H1 fun y H2 => rd v y H2 fun z H3 => ∃ dx' fs', H3 a = some (.ins C dx' fs') ∧ fs'.length < 1000 ∧ D.nx σ (upd H3 a (.ins C dx' (putF f z fs')))

section
variable {X : Cx} {o e value : Expr} {f : Str} {pos pos' tpos : Pos} {ta tv : TE}
theorem pe_fld (he : PE X e ta) (hb : attributeBase e f X.env (eval e X.env) = eval e X.env) : PE X (.Attribute e f pos) (tFld X.K ta f) := by
  intro pins s σ H Q I h
  refine attr_of hb (thn (he pins s σ H _ I h) fun u s1 ⟨x, H1, I1, rx, a, C, dx, fs, v, ex, ea, c, n, l, q⟩ => ?_)
  subst ex
  obtain rfl : u = Value.ref a := rx
  exact getattr_ok I1 ea c n l fun u' s2 I2 ru => ⟨v, H1, I2, ru, q⟩
theorem pe_con (he : PE X e ta) (hb : attributeBase e f X.env (eval e X.env) = eval e X.env) : PE X (.Attribute e f pos) (tCon X.K ta f) := by
  intro pins s σ H Q I h
  refine attr_of hb (thn (he pins s σ H _ I h) fun u s1 ⟨x, H1, I1, rx, a, C, dx, fs, v, u0, ex, ea, c, k, l, q⟩ => ?_)
  subst ex
  obtain rfl : u = Value.ref a := rx
  exact getcon_ok I1 ea c k l fun s2 I2 => ⟨v, H1, I2, k.rel, q⟩
theorem ps_fld (ha : PE X o ta) (hv : PE X value tv) (hs : swapsWith value (some (.Attribute o f pos')) pos.line X.env = pure false) : PS X (.Assign [.Attribute o f pos'] value pos) (sFld X.K ta tv f) := by
  intro pins s σ H D I h
  refine plainObj_wpAny_Assign_Attribute (thn (hv pins s σ H _ I h) fun u s1 ⟨y, H1, I1, ry, q⟩ => thn (ha pins s1 σ H1 _ I1 q) fun ov s2 ⟨x, H2, I2, rx, a, C, dx, fs, ex, ea, c, n, l, q2⟩ => ?_) hs
  subst ex
  obtain rfl : ov = Value.ref a := rx
  exact setattr_ok I2 ea c n l ry fun s3 I3 => ⟨σ, _, I3, q2⟩
theorem ps_fldaug {op : Operator} {rd : V → V → Hp → VK → Prop} (ha : PE X o ta) (hv : PE X value tv) (hop : InOp X op rd) : PS X (.AugAssign (.Attribute o f tpos) op value pos) (sFldAug X.K ta tv rd f) := by
  intro pins s σ H D I h
  refine wpAny_AugAssign_AttributeAny (thn (ha pins s σ H _ I h) fun ov s1 ⟨x, H1, I1, rx, a, C, dx, fs, v, ex, ea, c, n, l, q⟩ => ?_)
  subst ex
  obtain rfl : ov = Value.ref a := rx
  refine getattr_ok I1 ea c n l fun u s2 I2 ru => thn (hv pins s2 σ H1 _ I2 q) fun w3 s3 ⟨y, H2, I3, ry, q3⟩ => thn (hop pins s3 σ H2 v y u w3 _ I3 ru ry q3) fun w4 s4 ⟨z, H3, I4, rz, dx', fs', ea', l', q4⟩ => ?_
  exact setattr_ok I4 ea' c n l' rz fun s5 I5 => ⟨σ, _, I5, q4⟩
def rAdd : V → V → Hp → VK → Prop := fun x y H Q => ∃ i j, x = .int i ∧ y = .int j ∧ Q (.int (i + j)) H
def rSub : V → V → Hp → VK → Prop := fun x y H Q => ∃ i j, x = .int i ∧ y = .int j ∧ Q (.int (i - j)) H
theorem in_add : InOp X .Add rAdd := by
  rintro pins s σ H x y u v Q I rx ry ⟨i, j, rfl, rfl, q⟩
  obtain ⟨t, rfl⟩ := (show ∃ t, u = Value.int i t from rx)
  obtain ⟨t', rfl⟩ := (show ∃ t', v = Value.int j t' from ry)
  exact PyProof.Rows.iadd_int ⟨.int (i + j), H, I.tok _, ⟨_, rfl⟩, q⟩
theorem in_sub : InOp X .Sub rSub := by
  rintro pins s σ H x y u v Q I rx ry ⟨i, j, rfl, rfl, q⟩
  obtain ⟨t, rfl⟩ := (show ∃ t, u = Value.int i t from rx)
  obtain ⟨t', rfl⟩ := (show ∃ t', v = Value.int j t' from ry)
  exact PyProof.Rows.isub_int ⟨.int (i - j), H, I.tok _, ⟨_, rfl⟩, q⟩

/-- what is between an instance and its method: the tree of a method call -/
theorem methcall_of {pl : Sem Bool} {m : Str} {apos : Pos} {args : List Expr} {pins : List (Addr × Obj)} {s : Shared} {σ : St} {H : Hp} {Q : Value → Shared → Prop} {te : TE} (he : PE X e te) (I : Inv X pins σ H s)
    (h : te σ H fun x H1 => ∃ a C dx fs g, x = .ref a ∧ H1 a = some (.ins C dx fs) ∧ Cls X.K C ∧ Meth X.K C m g ∧ fs.lookup m = none ∧
      ∀ s1, Inv X pins σ H1 s1 → wpAny (model X.prog X.w) X.A (callWith pos (.ref g) [.ref a] (backTo pos (starEach args X.env)) (backToKw pos (keywordEach [] X.env))) Q X.xe s1)
    (ht : eval (.Call (.Attribute e m apos) args [] pos) X.env = (do
      let ov ← eval e X.env
      standAt apos.atName
      let (f, first) ← holding [ov] (getMethod ov m pl)
      callWith pos f first (backTo pos (starEach args X.env)) (backToKw pos (keywordEach [] X.env)))) :
    wpAny (model X.prog X.w) X.A (eval (.Call (.Attribute e m apos) args [] pos) X.env) Q X.xe s := by
  refine PySem.W.methodCall_KW (pl := pl) (thn (he pins s σ H _ I h) fun u s1 ⟨x, H1, I1, rx, a, C, dx, fs, g, ex, ea, c, k, l, q⟩ => ?_) ht
  subst ex
  obtain rfl : u = Value.ref a := rx
  exact getmeth_ok I1 ea c k l (q s1 I1)
end

/-! ### isinstance -/
section
variable {X : Cx} {pins : List (Addr × Obj)} {σ : St} {H : Hp} {s : Shared} {A : Around} {E : Value → Shared → Prop} {Q : Value → Shared → Prop} {c : Value} {b : Bool}
/-- the type of a value, as the fragment's deciders take it; for an instance its class -/
inductive TyOf (K : PySem.W.Frag) (H : Hp) : V → Value → Prop where
  | non : TyOf K H .non (.type "NoneType")
  | bl (x : Bool) : TyOf K H (.bl x) (.type "bool")
  | int (i : Int) : TyOf K H (.int i) (.type "int")
  | str (x : Str) : TyOf K H (.str x) (.type "str")
  | flt (x : UInt64) : TyOf K H (.flt x) (.type "float")
  | lst {a : Addr} {xs : List V} (e : H a = some (.lst xs)) : TyOf K H (.ref a) (.type "list")
  | frz {a : Addr} {o : Obj} {xs : List V} (e : H a = some (.frz o (.lst xs))) : TyOf K H (.ref a) (.type "list")
  | tup {a : Addr} {xs : List V} (e : H a = some (.tup xs)) : TyOf K H (.ref a) (.type "tuple")
  | dK {a : Addr} {kvs : List (Key × V)} (e : H a = some (.dK kvs)) : TyOf K H (.ref a) (.type "dict")
  | dT {a : Addr} {kvs : List (List Key × V)} (e : H a = some (.dT kvs)) : TyOf K H (.ref a) (.type "dict")
  | ins {a C dx : Addr} {fs : List (Str × V)} (e : H a = some (.ins C dx fs)) (cl : Cls K C) (ha : PySem.W.findIn K (.ref C) "__class__" = some (some (.builtin "object.__class__")))
      (hn : PySem.W.specialIn K (.builtin "object.__class__") "__get__" = some (some (.builtin "getset_descriptor.__get__"))) (htk : PySem.W.takesIn K (.builtin "object.__class__") = some true)
      (hm : PySem.W.mroIn K C (.type "object") = some true) : TyOf K H (.ref a) (.ref C)
/-- isinstance(x, c) for one class c, a built-in or an own one: kitOne's answer -/
theorem isinst_ok {x : V} {u t : Value} (I : Inv X pins σ H s) (rx : RelV x u) (ty : TyOf X.K H x t) (e : PySem.W.kitOne X.K t c = some b) (h : ∀ tk, Q (.bool b) { s with toks := tk }) :
    wpAny (model X.prog X.w) A (call (.builtin "isinstance") [u, c]) Q E s := by
  cases ty with
  | non => cases (show u = Value.none from rx); exact PySem.W.kia_one PySem.W.kitx_none I.kIn True.intro e (fun z => nomatch z) h
  | bl y => cases (show u = Value.bool y from rx); exact PySem.W.kia_one PySem.W.kitx_bool I.kIn True.intro e (fun z => nomatch z) h
  | int i => obtain ⟨t, q⟩ := (show ∃ t, u = Value.int i t from rx); cases q; exact PySem.W.kia_one PySem.W.kitx_int I.kIn True.intro e (fun z => nomatch z) h
  | str y => obtain ⟨t, q⟩ := (show ∃ t, u = Value.str y t from rx); cases q; exact PySem.W.kia_one PySem.W.kitx_str I.kIn True.intro e (fun z => nomatch z) h
  | flt y => obtain ⟨t, q⟩ := (show ∃ t, u = Value.float y t from rx); cases q; exact PySem.W.kia_one PySem.W.kitx_float I.kIn True.intro e (fun z => nomatch z) h
  | @lst a xs ea =>
    cases (show u = Value.ref a from rx)
    obtain ⟨_, _, n, _, h1⟩ := (show ObjOk X.prog X.w H s.heap a (.lst xs) from I.hok a _ ea)
    exact PySem.W.kia_one PySem.W.kitx_list I.kIn ⟨_, h1, rfl⟩ e (fun z => nomatch z) h
  | @frz a ob xs ea =>
    cases (show u = Value.ref a from rx)
    obtain ⟨_, _, _, n, _, h1⟩ := (show ObjOk X.prog X.w H s.heap a (.frz ob (.lst xs)) from I.hok a _ ea)
    exact PySem.W.kia_one PySem.W.kitx_list I.kIn ⟨_, h1, rfl⟩ e (fun z => nomatch z) h
  | @tup a xs ea =>
    cases (show u = Value.ref a from rx)
    obtain ⟨_, _, _, p'⟩ := (show ObjOk X.prog X.w H s.heap a (.tup xs) from I.hok a _ ea)
    have p := p'.tup
    obtain ⟨o, h1, h2, _⟩ := p
    exact PySem.W.kia_one PySem.W.kitx_tuple I.kIn ⟨o, h1, h2⟩ e (fun z => nomatch z) h
  | @dK a kvs ea =>
    cases (show u = Value.ref a from rx)
    obtain ⟨_, _, vs, _, p⟩ := (show ObjOk X.prog X.w H s.heap a (.dK kvs) from I.hok a _ ea)
    obtain ⟨o, es, ep, h1, h2, _⟩ := p
    exact PySem.W.kia_one PySem.W.kitx_dict I.kIn ⟨o, h1, h2.1⟩ e (fun z => nomatch z) h
  | @dT a kvs ea =>
    cases (show u = Value.ref a from rx)
    obtain ⟨_, _, xs, _, o, es, ep, h1, h2, _⟩ := (show ObjOk X.prog X.w H s.heap a (.dT kvs) from I.hok a _ ea)
    exact PySem.W.kia_one PySem.W.kitx_dict I.kIn ⟨o, h1, h2.1⟩ e (fun z => nomatch z) h
  | @ins a C dx fs ea cl ha hn htk hm =>
    cases (show u = Value.ref a from rx)
    obtain ⟨mA, O, _⟩ := ins_get I.hok ea
    obtain ⟨od, J, _⟩ := O.look
    exact PySem.W.kia_one (PySem.W.kitx_own (cl.get _) cl.hd ha hn htk hm) I.kIn J e (fun z => nomatch z) h
end
end L2

namespace L2
open PySem PySem.Spec PyProof.Rows

/-! ### room -/
structure Room (k : Nat) (A : Around) : Prop where
  hd : A.handled = none
  dp : A.depth + 3 * k + 5 < recursionLimit
  un : A.units + 16 * k + 200 < cLine
  gd : A.guards = some []
theorem Room.mono {j k : Nat} {A : Around} (r : Room k A) (h : j ≤ k) : Room j A := ⟨r.hd, by have := r.dp; omega, by have := r.un; omega, r.gd⟩
theorem Room.deeper {k : Nat} {A : Around} (r : Room (k + 1) A) (env : Env) : Room k (A.deeper env) :=
  ⟨r.hd, by have := r.dp; show A.depth + 1 + 3 * k + 5 < _; omega, by have := r.un; show A.units + 3 + 16 * k + 200 < _; omega, r.gd⟩
theorem Room.in1 {k : Nat} {A : Around} (r : Room (k + 1) A) : Room k A.in1 :=
  ⟨r.hd, by have := r.dp; show A.depth + 3 * k + 5 < _; omega, by have := r.un; show A.units + 1 + 16 * k + 200 < _; omega, r.gd⟩
theorem make_depth {A : Around} {C : Addr} {us : List Value} {kw : List (Str × Value)} : (A.under (.builtin "type.__call__" ⟨.ref C :: us, kw⟩)).depth = A.depth + 1 := by
  first | rfl | simp [Around.under, Code.weight, Code.isCreation, Code.isGuard, Code.isCaller, Code.frames, Code.isFrame, guardIds]
theorem make_units {A : Around} {C : Addr} {us : List Value} {kw : List (Str × Value)} : (A.under (.builtin "type.__call__" ⟨.ref C :: us, kw⟩)).units = A.units + 1 := by
  first | rfl | simp [Around.under, Code.cUnits, Code.frames, Code.isFrame]
theorem Room.make {k : Nat} {A : Around} (r : Room (k + 1) A) (C : Addr) (us : List Value) (kw : List (Str × Value)) : Room k (A.under (.builtin "type.__call__" ⟨.ref C :: us, kw⟩)) :=
  ⟨r.hd, by have := r.dp; rw [make_depth]; omega, by have := r.un; rw [make_units]; omega, (show _ from by first | exact r.gd | (simpa [Around.under, Code.isGuard, Code.guardAt, guardIds] using r.gd))⟩
theorem Room.depth {k : Nat} {A : Around} (r : Room k A) : A.depth < recursionLimit := by have := r.dp; omega
theorem Room.units {k : Nat} {A : Around} (r : Room k A) : A.units + 64 < cLine := by have := r.un; omega
theorem Room.units0 {k : Nat} {A : Around} (r : Room k A) : A.units < cLine := by have := r.un; omega

/-! ### argument lists and displays -/
def tNil : TA := fun _ H Q => Q [] H
def tCons (ta : TE) (tr : TA) : TA := fun σ H Q => ta σ H fun x H1 => tr σ H1 fun xs H2 => Q (x :: xs) H2
section
variable {X : Cx} {e : Expr} {es : List Expr} {te : TE} {t : TA} {pos : Pos}
theorem pa_nil : PA X [] tNil := fun _ _ _ _ H Q I h => Calls.spliced_nil ⟨[], H, I, .nil, h⟩
theorem pa_cons (ha : PE X e te) (hr : PA X es t) (hs : starEach (e :: es) X.env = (false, eval e X.env) :: starEach es X.env := by rfl) : PA X (e :: es) (tCons te t) := by
  intro pos pins s σ H Q I h
  rw [hs]
  show wpAny _ _ (spliced ((false, eval e X.env) :: backTo pos (starEach es X.env))) _ _ s
  refine Calls.spliced_cons (thn (ha pins s σ H _ I h) fun u s1 ⟨x, H1, I1, r1, q1⟩ => ?_)
  exact thn (hr pos pins s1 σ H1 _ I1 q1) fun us s2 ⟨xs, H2, I2, r2, q2⟩ => ⟨x :: xs, H2, I2, .cons r1 r2, q2⟩

/-- a tuple, a list of written items -/
def tTup (t : TA) : TE := fun σ H Q => t σ H fun xs H1 => xs.length ≤ sizeLine ∧ ∀ p, H1 p = none → Q (.ref p) (upd H1 p (.tup xs))
def tLst (t : TA) : TE := fun σ H Q => t σ H fun xs H1 => xs.length ≤ sizeLine ∧ ∀ p, H1 p = none → Q (.ref p) (upd H1 p (.lst xs))
theorem pe_tup {x1} (h : PA X es t) : PE X (.Tuple es x1 pos) (tTup t) := by
  intro pins s σ H Q I hq
  refine wpAny_Tuple_spliced (thn (h pos pins s σ H _ I hq) fun us s1 ⟨xs, H1, I1, r, z, q⟩ => ⟨by rw [← r.length]; exact z, ?_⟩)
  have hf : H1 s1.heap.objs.size = none := I1.hok.fresh (Nat.le_refl _)
  refine ⟨.ref s1.heap.objs.size, upd H1 s1.heap.objs.size (.tup xs), I1.laid (t' := s1.toks) (fun b u e => Heap.get?_push_of_some _ e) (Nat.le_refl _) ?_, rfl, q _ hf⟩
  exact ⟨z, us, r, TupX.new _ _⟩
theorem pe_lst (h : PA X es t) : PE X (.List es pos) (tLst t) := by
  intro pins s σ H Q I hq
  refine wpAny_List_spliced (thn (h pos pins s σ H _ I hq) fun us s1 ⟨xs, H1, I1, r, z, q⟩ => ⟨by rw [← r.length]; exact z, ?_⟩)
  have hf : H1 s1.heap.objs.size = none := I1.hok.fresh (Nat.le_refl _)
  refine ⟨.ref s1.heap.objs.size, upd H1 s1.heap.objs.size (.lst xs), I1.laid (t' := s1.toks) (fun b u e => Heap.get?_push_of_some _ e) (Nat.le_refl _) ?_, rfl, q _ hf⟩
  exact ⟨z, us, 0, r, Heap.get?_push_size _ rfl⟩
end

/-! ### what a def promises -/
/-- a def's promise: the bound arguments in the parameters' order, the heap, the wanted end, the wanted exception -/
abbrev Sp := List V → Hp → VK → XK → Prop
/-- how an exception lies behind a call (file 08 gives it): the callers' frames, abstract heap and state ahead of the call, the wish, the exception, the state -/
abbrev CXT := List Env → Hp → Shared → XK → Value → Shared → Prop

/-- the state at a call -/
structure Env0 (P : Program) (w : World) (K : PySem.W.Frag) (mg : Str → Option Value) (base : Heap) (A : Around) (outer : List Env) (s : Shared) (H : Hp) : Prop where
  frames : A.frames = some outer
  mod : Mod K mg base
  bs : ∀ b o, base.get? b = some o → s.heap.get? b = some o ∧ H b = none
  bsz : base.objs.size ≤ s.heap.objs.size
  funs : s.heap.FunFrames base outer
  frf : ∀ b ∈ frs outer, H b = none
  hok : HOk P w H s.heap
  bare : AllBare s.gens
/-- a call's end -/
def CE (outer : List Env) (P : Program) (w : World) (H : Hp) (s : Shared) (Q : VK) (u : Value) (s' : Shared) : Prop :=
  ∃ v H', s'.os = s.os ∧ AllBare s'.gens ∧ Un (frs outer) [] H H' s.heap s'.heap ∧ HOk P w H' s'.heap ∧ RelV v u ∧ Q v H'
def CR (CX : CXT) (outer : List Env) (P : Program) (w : World) (H : Hp) (s : Shared) (Q : VK) (E : XK) (r : Result) (s' : Shared) : Prop :=
  match r with
  | .ok (.ret u) => CE outer P w H s Q u s'
  | .ok _ => False
  | .error e => CX outer H s E e s'
structure FnOk (P : Program) (w : World) (K : PySem.W.Frag) (mg : Str → Option Value) (base : Heap) (CX : CXT) (k : Nat) (f : Addr) (fd : FuncData) (ps : List Str) (sp : Sp) : Prop where
  len : ∀ vs H Q E, sp vs H Q E → vs.length = ps.length
  run : ∀ (A : Around) (outer : List Env) (s : Shared) (H : Hp) (args : Args) (us : List Value) (vs : List V) (Q : VK) (E : XK), Room k A → Env0 P w K mg base A outer s H → BindsTo s fd args (ps.zip us) → Vals vs us → sp vs H Q E →
    codeAny (model P w) A (.call (.ref f) args) (CR CX outer P w H s Q E) s
theorem FnOk.mono {P : Program} {w : World} {K : PySem.W.Frag} {mg : Str → Option Value} {base : Heap} {CX : CXT} {j k : Nat} {f : Addr} {fd : FuncData} {ps : List Str} {sp : Sp} (F : FnOk P w K mg base CX j f fd ps sp) (h : j ≤ k) :
    FnOk P w K mg base CX k f fd ps sp := ⟨F.len, fun A outer s H args us vs Q E hr => F.run A outer s H args us vs Q E (hr.mono h)⟩
/-- a weaker promise -/
theorem FnOk.imp {P : Program} {w : World} {K : PySem.W.Frag} {mg : Str → Option Value} {base : Heap} {CX : CXT} {k : Nat} {f : Addr} {fd : FuncData} {ps : List Str} {sp sp' : Sp} (F : FnOk P w K mg base CX k f fd ps sp)
    (h : ∀ vs H Q E, sp' vs H Q E → sp vs H Q E) : FnOk P w K mg base CX k f fd ps sp' :=
  ⟨fun vs H Q E q => F.len vs H Q E (h _ _ _ _ q), fun A outer s H args us vs Q E hr he hb hv hs => F.run A outer s H args us vs Q E hr he hb hv (h _ _ _ _ hs)⟩

theorem Env0.make {P : Program} {w : World} {K : PySem.W.Frag} {mg : Str → Option Value} {base : Heap} {A : Around} {outer : List Env} {s : Shared} {H : Hp} (e : Env0 P w K mg base A outer s H) (C : Addr) (us : List Value) (kw : List (Str × Value)) :
    Env0 P w K mg base (A.under (.builtin "type.__call__" ⟨.ref C :: us, kw⟩)) outer s H := ⟨by first | exact e.frames | (simpa [Around.under, Code.envs, Code.isFrame, pushEnvs] using e.frames), e.mod, e.bs, e.bsz, e.funs, e.frf, e.hok, e.bare⟩
theorem Env0.in1 {P : Program} {w : World} {K : PySem.W.Frag} {mg : Str → Option Value} {base : Heap} {A : Around} {outer : List Env} {s : Shared} {H : Hp} (e : Env0 P w K mg base A outer s H) :
    Env0 P w K mg base A.in1 outer s H := ⟨e.frames, e.mod, e.bs, e.bsz, e.funs, e.frf, e.hok, e.bare⟩

section
variable {X : Cx} {pins : List (Addr × Obj)} {σ : St} {H : Hp} {s s' : Shared}
/-- from a body: what a callee wants -/
theorem Inv.env0 (I : Inv X pins σ H s) : Env0 X.prog X.w X.K X.mg X.base X.A X.stack s H :=
  ⟨I.ok.frames, I.ok.mod, I.bs, Nat.le_trans I.ok.bsz I.sz, I.stack, I.stkFree, I.hok, I.bare⟩
/-- behind a call -/
theorem Inv.after {Q : VK} {u : Value} (I : Inv X pins σ H s) (h : CE X.stack X.prog X.w H s Q u s') : EP X pins σ Q u s' := by
  obtain ⟨v, H', os, bare, un, hok, r, q⟩ := h
  obtain ⟨hh, g, d, t, os'⟩ := s'
  obtain rfl : os' = s.os := os
  exact ⟨v, H', I.call (h' := hh) (g' := g) (d' := d) (t' := t) (ch := []) un hok bare (fun b z => absurd z (by simp)), r, q⟩
end

/-! ### calls -/
/-- f(..): the written arguments, then the defaults dvs; E: what is wanted of an exception -/
def tCall (sp : Sp) (dvs : List V) (E : XK) (t : TA) : TE := fun σ H Q => t σ H fun vs H1 => sp (vs ++ dvs) H1 Q E
/-- o.m(..) of an instance of the class at C -/
def tMeth (C : Addr) (m : Str) (sp : Sp) (dvs : List V) (E : XK) (ta : TE) (t : TA) : TE := fun σ H Q => ta σ H fun x H1 => ∃ a dx fs, x = .ref a ∧ H1 a = some (.ins C dx fs) ∧ fs.lookup m = none ∧
  t σ H1 fun vs H2 => sp (x :: (vs ++ dvs)) H2 Q E
/-- C(..): a new instance and its dict, then __init__ -/
def tMake (C : Addr) (sp : Sp) (dvs : List V) (E : XK) (t : TA) : TE := fun σ H Q => t σ H fun vs H1 => ∀ x dx, H1 x = none → H1 dx = none → dx ≠ x →
  sp (.ref x :: (vs ++ dvs)) (upd (upd H1 dx (.own x)) x (.ins C dx [])) (fun v H2 => v = .non ∧ Q (.ref x) H2) E

/-- how the parameters are bound: us the positional arguments, kw the keywords' values by name, ds the defaults that fill up -/
def Binds (K : PySem.W.Frag) (fd : FuncData) (ps : List Str) (ds : List Value) : Prop :=
  ∀ (s : Shared) (us : List Value), K.In s.heap → (us ++ ds).length = ps.length → BindsTo s fd ⟨us, []⟩ (ps.zip (us ++ ds))
/-- every parameter is given -/
theorem Binds.all {K : PySem.W.Frag} {fd : FuncData} {ps : List Str} (h : ∀ us : List Value, us.length = ps.length → bindArgs fd ⟨us, []⟩ = pure (ps.zip us)) : Binds K fd ps [] := fun s us _ hl => by
  rw [List.append_nil] at hl ⊢
  exact .of_eq (h us hl)

/-- an exception of a callee reaches what this body wants of exceptions -/
def Passes (CX : CXT) (X : Cx) (E : XK) : Prop := ∀ (pins : List (Addr × Obj)) (σ : St) (H : Hp) (s : Shared) (e : Value) (s' : Shared), Inv X pins σ H s → CX X.stack H s E e s' → X.xe e s'

section
variable {X : Cx} {CX : CXT} {k : Nat} {f C : Addr} {fd : FuncData} {ps : List Str} {sp : Sp} {dvs : List V} {ds : List Value} {E : XK} {x m : Str} {p pos apos : Pos} {e o : Expr} {es : List Expr} {ta : TE} {t : TA}

/-- the callee runs -/
theorem run_fn {pins : List (Addr × Obj)} {σ : St} {H : Hp} {s : Shared} {Q : VK} {us : List Value} {vs : List V} (F : FnOk X.prog X.w X.K X.mg X.base CX k f fd ps sp) (hr : Room k X.A) (hb : Binds X.K fd ps ds) (hd : Vals dvs ds) (hx : Passes CX X E)
    (I : Inv X pins σ H s) (r : Vals vs us) (h : sp (vs ++ dvs) H Q E) : wpAny (model X.prog X.w) X.A (call (.ref f) us) (EP X pins σ Q) X.xe s := by
  have r2 : Vals (vs ++ dvs) (us ++ ds) := r.append hd
  have hl : (us ++ ds).length = ps.length := by rw [← r2.length]; exact F.len _ _ _ _ h
  refine wpAny_call (codeAny_mono (F.run X.A X.stack s H ⟨us, []⟩ (us ++ ds) (vs ++ dvs) Q E hr I.env0 (hb s us I.kIn hl) r2 h) fun r s' hq => ?_)
  cases r with
  | error e => exact hx pins σ H s e s' I hq
  | ok fl =>
    cases fl with
    | ret u => exact I.after hq
    | next => exact False.elim hq
    | brk => exact False.elim hq
    | cont => exact False.elim hq

theorem pe_call (F : FnOk X.prog X.w X.K X.mg X.base CX k f fd ps sp) (hr : Room k X.A) (hg : Gl X x) (hm : X.mg x = some (.ref f)) (hk : PySem.W.keepIn X.K (.ref f) = true) (hb : Binds X.K fd ps ds) (hd : Vals dvs ds) (hx : Passes CX X E)
    (ha : PA X (e :: es) t) (hdb : (x == ("__debug__" : Str)) = false := by decide) (he : starEach (e :: es) X.env = (false, eval e X.env) :: starEach es X.env := by rfl) (hpl : (backTo pos (starEach es X.env)).any (·.1) = false := by rfl) :
    PE X (.Call (.Name x p) (e :: es) [] pos) (tCall sp dvs E t) := by
  intro pins s σ H Q I h
  refine wpAny_Call_Name_kw (ld_glob I hg hm ?_ hdb)
  refine PySem.W.callWith_K (h₀ := X.base) I.ok.mod.kin hk (thn (ha pos pins s σ H _ I h) fun us s1 ⟨vs, H1, I1, r, q⟩ => ⟨I1.kIn, ?_⟩) he hpl
  exact run_fn F hr hb hd hx I1 r q
theorem pe_call0 (F : FnOk X.prog X.w X.K X.mg X.base CX k f fd ps sp) (hr : Room k X.A) (hg : Gl X x) (hm : X.mg x = some (.ref f)) (hk : PySem.W.keepIn X.K (.ref f) = true) (hb : Binds X.K fd ps ds) (hd : Vals dvs ds) (hx : Passes CX X E)
    (hdb : (x == ("__debug__" : Str)) = false := by decide) : PE X (.Call (.Name x p) [] [] pos) (tCall sp dvs E tNil) := by
  intro pins s σ H Q I h
  refine wpAny_Call_Name_kw (ld_glob I hg hm ?_ hdb)
  exact PySem.W.callWith_K0 I.kIn hk (run_fn (us := []) F hr hb hd hx I .nil h)

/-- o.m(e, ..) -/
theorem pe_meth {pl : Sem Bool} (he : PE X o ta) (c : Cls X.K C) (hm : Meth X.K C m f) (F : FnOk X.prog X.w X.K X.mg X.base CX k f fd ps sp) (hr : Room k X.A) (hb : Binds X.K fd ps ds) (hd : Vals dvs ds) (hx : Passes CX X E) (ha : PA X (e :: es) t)
    (hst : starEach (e :: es) X.env = (false, eval e X.env) :: starEach es X.env := by rfl) (hpl : (backTo pos (starEach es X.env)).any (·.1) = false := by rfl)
    (ht : eval (.Call (.Attribute o m apos) (e :: es) [] pos) X.env = (do
      let ov ← eval o X.env
      standAt apos.atName
      let (f, first) ← holding [ov] (getMethod ov m pl)
      callWith pos f first (backTo pos (starEach (e :: es) X.env)) (backToKw pos (keywordEach [] X.env))) := by rfl) :
    PE X (.Call (.Attribute o m apos) (e :: es) [] pos) (tMeth C m sp dvs E ta t) := by
  intro pins s σ H Q I h
  refine PySem.W.methodCall_KW (pl := pl) (thn (he pins s σ H _ I h) fun u s1 ⟨x, H1, I1, rx, a, dx, fs, ex, ea, l, q⟩ => ?_) ht
  subst ex
  obtain rfl : u = Value.ref a := rx
  refine getmeth_ok I1 ea c hm l ?_
  refine PySem.W.callWith_K (first := [.ref a]) (h₀ := X.base) I.ok.mod.kin hm.kp (thn (ha pos pins s1 σ H1 _ I1 q) fun us s2 ⟨vs, H2, I2, r, q2⟩ => ⟨I2.kIn, ?_⟩) hst hpl
  exact run_fn (us := .ref a :: us) (vs := .ref a :: vs) F hr hb hd hx I2 (.cons rfl r) q2
/-- o.m() -/
theorem pe_meth0 {pl : Sem Bool} (he : PE X o ta) (c : Cls X.K C) (hm : Meth X.K C m f) (F : FnOk X.prog X.w X.K X.mg X.base CX k f fd ps sp) (hr : Room k X.A) (hb : Binds X.K fd ps ds) (hd : Vals dvs ds) (hx : Passes CX X E)
    (ht : eval (.Call (.Attribute o m apos) [] [] pos) X.env = (do
      let ov ← eval o X.env
      standAt apos.atName
      let (f, first) ← holding [ov] (getMethod ov m pl)
      callWith pos f first (backTo pos (starEach [] X.env)) (backToKw pos (keywordEach [] X.env))) := by rfl) :
    PE X (.Call (.Attribute o m apos) [] [] pos) (tMeth C m sp dvs E ta tNil) := by
  intro pins s σ H Q I h
  refine PySem.W.methodCall_KW (pl := pl) (thn (he pins s σ H _ I h) fun u s1 ⟨x, H1, I1, rx, a, dx, fs, ex, ea, l, q⟩ => ?_) ht
  subst ex
  obtain rfl : u = Value.ref a := rx
  refine getmeth_ok I1 ea c hm l ?_
  exact PySem.W.callWith_K0 (first := [.ref a]) I1.kIn hm.kp (run_fn (us := [.ref a]) (vs := [.ref a]) F hr hb hd hx I1 (.cons rfl .nil) q)

/-- what a class must have to be made -/
structure Mk (K : PySem.W.Frag) (C f : Addr) : Prop where
  makes : PySem.W.makesIn K C = true
  init : PySem.W.findIn K (.ref C) "__init__" = some (some (.ref f))
  fn : PySem.W.isFn K (.ref f) = true
  kp : PySem.W.keepIn K (.ref C) = true

theorem run_make {pins : List (Addr × Obj)} {σ : St} {H : Hp} {s : Shared} {Q : VK} {us : List Value} {vs : List V} (M : Mk X.K C f) (F : FnOk X.prog X.w X.K X.mg X.base CX k f fd ps sp) (hr : Room (k + 1) X.A) (hb : Binds X.K fd ps ds) (hd : Vals dvs ds)
    (hx : Passes CX X E) (I : Inv X pins σ H s) (r : Vals vs us)
    (h : ∀ x dx, H x = none → H dx = none → dx ≠ x → sp (.ref x :: (vs ++ dvs)) (upd (upd H dx (.own x)) x (.ins C dx [])) (fun v H2 => v = .non ∧ Q (.ref x) H2) E) :
    wpAny (model X.prog X.w) X.A (call (.ref C) us) (EP X pins σ Q) X.xe s := by
  have hq := h (s.heap.objs.size + 1) s.heap.objs.size (I.hok.fresh (Nat.le_succ _)) (I.hok.fresh (Nat.le_refl _)) (Nat.ne_of_lt (Nat.lt_succ_self _))
  have I2 := Inv.made (C := C) I
  have r2 : Vals (V.ref (s.heap.objs.size + 1) :: (vs ++ dvs)) (Value.ref (s.heap.objs.size + 1) :: (us ++ ds)) := .cons rfl (r.append hd)
  have hl : (Value.ref (s.heap.objs.size + 1) :: us ++ ds).length = ps.length := by
    have e := r2.length
    rw [F.len _ _ _ _ hq] at e
    exact e.symm
  refine wpAny_call (make_map (f := f) I.kIn M.makes M.init (beq_iff_eq.mp M.fn) (codeAny_mono (F.run _ X.stack _ _ ⟨Value.ref (s.heap.objs.size + 1) :: us, []⟩ (Value.ref (s.heap.objs.size + 1) :: (us ++ ds)) _ _ E (hr.make C us [])
    (I2.env0.make C us []) (hb _ (Value.ref (s.heap.objs.size + 1) :: us) I2.kIn hl) r2 hq) fun r s' hq' => ?_))
  cases r with
  | error e => exact hx pins σ _ _ e s' I2 hq'
  | ok fl =>
    cases fl with
    | ret u =>
      obtain ⟨v, H', I3, rv, ev, q3⟩ := I2.after hq'
      subst ev
      exact ⟨rv, ⟨V.ref (s.heap.objs.size + 1), H', I3, rfl, q3⟩⟩
    | next => exact False.elim hq'
    | brk => exact False.elim hq'
    | cont => exact False.elim hq'
theorem pe_make (M : Mk X.K C f) (F : FnOk X.prog X.w X.K X.mg X.base CX k f fd ps sp) (hr : Room (k + 1) X.A) (hg : Gl X x) (hm : X.mg x = some (.ref C)) (hb : Binds X.K fd ps ds) (hd : Vals dvs ds) (hx : Passes CX X E)
    (ha : PA X (e :: es) t) (hdb : (x == ("__debug__" : Str)) = false := by decide) (he : starEach (e :: es) X.env = (false, eval e X.env) :: starEach es X.env := by rfl) (hpl : (backTo pos (starEach es X.env)).any (·.1) = false := by rfl) :
    PE X (.Call (.Name x p) (e :: es) [] pos) (tMake C sp dvs E t) := by
  intro pins s σ H Q I h
  refine wpAny_Call_Name_kw (ld_glob I hg hm ?_ hdb)
  refine PySem.W.callWith_K (h₀ := X.base) I.ok.mod.kin M.kp (thn (ha pos pins s σ H _ I h) fun us s1 ⟨vs, H1, I1, r, q⟩ => ⟨I1.kIn, ?_⟩) he hpl
  exact run_make M F hr hb hd hx I1 r q
theorem pe_make0 (M : Mk X.K C f) (F : FnOk X.prog X.w X.K X.mg X.base CX k f fd ps sp) (hr : Room (k + 1) X.A) (hg : Gl X x) (hm : X.mg x = some (.ref C)) (hb : Binds X.K fd ps ds) (hd : Vals dvs ds) (hx : Passes CX X E)
    (hdb : (x == ("__debug__" : Str)) = false := by decide) : PE X (.Call (.Name x p) [] [] pos) (tMake C sp dvs E tNil) := by
  intro pins s σ H Q I h
  refine wpAny_Call_Name_kw (ld_glob I hg hm ?_ hdb)
  exact PySem.W.callWith_K0 I.kIn M.kp (run_make (us := []) M F hr hb hd hx I .nil h)
end

/-! ### keywords -/
/-- the values of the keywords, from the left -/
def PK (X : Cx) (kws : List Keyword) (t : TA) : Prop :=
  ∀ (pos : Pos) (pins : List (Addr × Obj)) (s : Shared) (σ : St) (H : Hp) (Q : List V → Hp → Prop), Inv X pins σ H s → t σ H Q → wpAny (model X.prog X.w) X.A (evalAll ((backToKw pos (keywordEach kws X.env)).map (·.2))) (AP X pins σ Q) X.xe s
section
variable {X : Cx} {CX : CXT} {k : Nat} {f C : Addr} {fd : FuncData} {ps ks : List Str} {sp : Sp} {E : XK} {x m : Str} {p pos apos kpos : Pos} {e o : Expr} {es : List Expr} {kws : List Keyword} {te ta : TE} {t tk : TA} {nm : Option Str}
theorem pk_nil : PK X [] tNil := fun _ _ _ _ H Q I h => wpAny_evalAll_nil ⟨[], H, I, .nil, h⟩
theorem pk_cons (ha : PE X e te) (hr : PK X kws t) : PK X (⟨nm, e, kpos⟩ :: kws) (tCons te t) := by
  intro pos pins s σ H Q I h
  show wpAny _ _ (evalAll ((do let v ← eval e X.env; standAt pos; pure v) :: (backToKw pos (keywordEach kws X.env)).map (·.2))) _ _ s
  refine wpAny_evalAll_cons (wpAny_bind (thn (ha pins s σ H _ I h) fun u s1 ⟨x, H1, I1, r1, q1⟩ => wpAny_bind (wpAny_standAt (wpAny_pure ?_))))
  exact thn (hr pos pins s1 σ H1 _ I1 q1) fun us s2 ⟨xs, H2, I2, r2, q2⟩ => ⟨x :: xs, H2, I2, .cons r1 r2, q2⟩

/-- how a call with keywords binds: g puts the positional values us and the keywords' values ws (names ks) in the parameters' order, defaults among them -/
structure KBinds (K : PySem.W.Frag) (fd : FuncData) (ps ks : List Str) (g : List Value → List Value → List Value) (gV : List V → List V → List V) : Prop where
  to : ∀ (s : Shared) (us ws : List Value), K.In s.heap → (g us ws).length = ps.length → BindsTo s fd ⟨us, ks.zip ws⟩ (ps.zip (g us ws))
  rel : ∀ {vs : List V} {us : List Value} {zs : List V} {ws : List Value}, Vals vs us → Vals zs ws → Vals (gV vs zs) (g us ws)
def tCallK (sp : Sp) (gV : List V → List V → List V) (E : XK) (t tk : TA) : TE := fun σ H Q => t σ H fun vs H1 => tk σ H1 fun zs H2 => sp (gV vs zs) H2 Q E
variable {g : List Value → List Value → List Value} {gV : List V → List V → List V}
theorem run_fnk {pins : List (Addr × Obj)} {σ : St} {H : Hp} {s : Shared} {Q : VK} {us ws : List Value} {vs zs : List V} (F : FnOk X.prog X.w X.K X.mg X.base CX k f fd ps sp) (hr : Room k X.A) (hb : KBinds X.K fd ps ks g gV) (hx : Passes CX X E)
    (I : Inv X pins σ H s) (r : Vals vs us) (rz : Vals zs ws) (h : sp (gV vs zs) H Q E) : wpAny (model X.prog X.w) X.A (call (.ref f) us (ks.zip ws)) (EP X pins σ Q) X.xe s := by
  have r2 := hb.rel r rz
  have hl : (g us ws).length = ps.length := by rw [← r2.length]; exact F.len _ _ _ _ h
  refine wpAny_call (codeAny_mono (F.run X.A X.stack s H ⟨us, ks.zip ws⟩ (g us ws) (gV vs zs) Q E hr I.env0 (hb.to s us ws I.kIn hl) r2 h) fun r s' hq => ?_)
  cases r with
  | error e => exact hx pins σ H s e s' I hq
  | ok fl =>
    cases fl with
    | ret u => exact I.after hq
    | next => exact False.elim hq
    | brk => exact False.elim hq
    | cont => exact False.elim hq
/-- f(e, .., k = v, ..) -/
theorem pe_callK (F : FnOk X.prog X.w X.K X.mg X.base CX k f fd ps sp) (hr : Room k X.A) (hg : Gl X x) (hm : X.mg x = some (.ref f)) (hk : PySem.W.keepIn X.K (.ref f) = true) (hb : KBinds X.K fd ps ks g gV) (hx : Passes CX X E)
    (ha : PA X (e :: es) t) (hkw : PK X kws tk) (hall : (backToKw pos (keywordEach kws X.env)).all (·.1.isSome) = true := by rfl) (hks : (backToKw pos (keywordEach kws X.env)).filterMap (·.1) = ks := by rfl)
    (hdb : (x == ("__debug__" : Str)) = false := by decide) (he : starEach (e :: es) X.env = (false, eval e X.env) :: starEach es X.env := by rfl)
    (hpl : ((backTo pos (starEach (e :: es) X.env)).any (·.1) || (backToKw pos (keywordEach kws X.env)).any (·.1.isNone)) = false := by rfl) :
    PE X (.Call (.Name x p) (e :: es) kws pos) (tCallK sp gV E t tk) := by
  intro pins s σ H Q I h
  refine wpAny_Call_Name_kw (ld_glob I hg hm ?_ hdb)
  refine PySem.W.callWith_KW (h₀ := X.base) I.ok.mod.kin hk hall (thn (ha pos pins s σ H _ I h) fun us s1 ⟨vs, H1, I1, r, q⟩ => ?_) hpl he
  refine thn (hkw pos pins s1 σ H1 _ I1 q) fun ws s2 ⟨zs, H2, I2, rz, q2⟩ => ⟨I2.kIn, ?_⟩
  rw [hks]
  exact run_fnk F hr hb hx I2 r rz q2
end

/-! ### a def's body keeps its promise -/
/-- names: the parameters first -/
structure FnScope (N P : List Str) (sc : Scope) : Prop where
  kind : sc.kind = .function
  co : sc.isCoroutine = false
  gen : sc.isGenerator = false
  nd : N.Nodup
  pre : N.take P.length = P
  par : ∀ x ∈ P, sc.names.lookup x = some .local ∨ sc.names.lookup x = some .cell
  nofree : ∀ y ∈ sc.names, y.2 ≠ .free

theorem bindL_out {kindOf : Str → Option NameKind} {x : Str} : ∀ {binds : List (Str × Value)} {m : Str → Option Value}, (∀ v, (x, v) ∉ binds) → bindL kindOf binds m x = m x
  | [], _, _ => rfl
  | (n, v) :: r, m, h => by
    unfold bindL
    rw [bindL_out fun w hw => h w (List.mem_cons_of_mem _ hw)]
    split
    · have : x ≠ n := by rintro rfl; exact h v List.mem_cons_self
      simp [this]
    · rfl
theorem bindC_out {kindOf : Str → Option NameKind} {x : Str} : ∀ {binds : List (Str × Value)} {m : Str → Option Value}, (∀ v, (x, v) ∉ binds) → bindC kindOf binds m x = m x
  | [], _, _ => rfl
  | (n, v) :: r, m, h => by
    unfold bindC
    rw [bindC_out fun w hw => h w (List.mem_cons_of_mem _ hw)]
    split
    · rfl
    · have : x ≠ n := by rintro rfl; exact h v List.mem_cons_self
      simp [this]
theorem bindL_get {kindOf : Str → Option NameKind} {x : Str} {v : Value} : ∀ {P : List Str} {vs : List Value} {i : Nat} {m : Str → Option Value}, P.Nodup → P[i]? = some x → vs[i]? = some v → kindOf x = some .local →
    bindL kindOf (P.zip vs) m x = some v
  | [], _, _, _, _, h, _, _ => by simp at h
  | _ :: _, [], _, _, _, _, h, _ => by simp at h
  | p :: P, w :: vs, 0, m, nd, h1, h2, hk => by
    simp at h1 h2; subst h1; subst h2
    show bindL kindOf ((p, w) :: P.zip vs) m p = _
    unfold bindL
    rw [bindL_out fun v hv => (List.nodup_cons.mp nd).1 (List.of_mem_zip hv).1, if_pos hk]
    simp
  | p :: P, w :: vs, i + 1, m, nd, h1, h2, hk => by
    show bindL kindOf ((p, w) :: P.zip vs) m x = _
    unfold bindL
    exact bindL_get (i := i) (List.nodup_cons.mp nd).2 (by simpa using h1) (by simpa using h2) hk
theorem bindC_get {kindOf : Str → Option NameKind} {x : Str} {v : Value} : ∀ {P : List Str} {vs : List Value} {i : Nat} {m : Str → Option Value}, P.Nodup → P[i]? = some x → vs[i]? = some v → kindOf x ≠ some .local →
    bindC kindOf (P.zip vs) m x = some v
  | [], _, _, _, _, h, _, _ => by simp at h
  | _ :: _, [], _, _, _, _, h, _ => by simp at h
  | p :: P, w :: vs, 0, m, nd, h1, h2, hk => by
    simp at h1 h2; subst h1; subst h2
    show bindC kindOf ((p, w) :: P.zip vs) m p = _
    unfold bindC
    rw [bindC_out fun v hv => (List.nodup_cons.mp nd).1 (List.of_mem_zip hv).1, if_neg hk]
    simp
  | p :: P, w :: vs, i + 1, m, nd, h1, h2, hk => by
    show bindC kindOf ((p, w) :: P.zip vs) m x = _
    unfold bindC
    exact bindC_get (i := i) (List.nodup_cons.mp nd).2 (by simpa using h1) (by simpa using h2) hk

/-- the names' values at the entry -/
def start (N : List Str) (vs : List V) : St := vs.map some ++ List.replicate (N.length - vs.length) none

/-- the context of a def's body, at its entry; an exception leaves the frame, then lies as CX says -/
def cxOf (CX : CXT) (P : Program) (w : World) (K : PySem.W.Frag) (mg : Str → Option Value) (base : Heap) (N : List Str) (qual : Str) (scope : Scope) (f : Addr) (cd : Value) (A : Around) (outer : List Env) (s : Shared) (H : Hp) (E : XK) : Cx where
  prog := P
  w := w
  K := K
  mg := mg
  base := base
  A := A.deeper (envOfC qual scope s.heap.objs.size f cd)
  N := N
  s₀ := s
  H₀ := H
  env := envOfC qual scope s.heap.objs.size f cd
  outer := outer
  stack := envOfC qual scope s.heap.objs.size f cd :: outer
  ex := []
  calm := true
  fn := fun _ => true
  pn := []
  xe := fun e s' => wpAny (model P w) (A.deeper (envOfC qual scope s.heap.objs.size f cd)) (leaving (envOfC qual scope s.heap.objs.size f cd) e) (fun _ s'' => CX outer H s E e s'') (fun e' s'' => CX outer H s E e' s'') s'

theorem cell_has {sc : Scope} {n : Nat} {x : Str} (h : sc.names.lookup x = some .cell) : ∃ c, (cellsFrom n sc.names []).lookup x = some c := by
  have q := PySem.W.cellsFrom_some sc.names n [] (.inl h)
  exact Option.isSome_iff_exists.mp q

theorem inv_start {CX : CXT} {P : Program} {w : World} {K : PySem.W.Frag} {mg : Str → Option Value} {base : Heap} {N ps : List Str} {qual : Str} {scope : Scope} {f : Addr} {cd : Value} {A : Around} {outer : List Env} {s s1 : Shared} {H : Hp} {E : XK} {us : List Value} {vs : List V}
    (S : FnScope N ps scope) (hd : A.handled = none) (e0 : Env0 P w K mg base A outer s H) (hl : vs.length = ps.length) (r : Vals vs us)
    (x : InCallC s s.heap.objs.size (bindL (envOfC qual scope s.heap.objs.size f cd).kindOf (ps.zip us) fun _ => none) (cellsFrom (s.heap.objs.size + 1) scope.names []) (bindC (envOfC qual scope s.heap.objs.size f cd).kindOf (ps.zip us) fun _ => none) s1) :
    Inv (cxOf CX P w K mg base N qual scope f cd A outer s H E) [] (start N vs) H s1 := by
  have hpl : ps.length ≤ N.length := by have := congrArg List.length S.pre; rw [List.length_take] at this; omega
  obtain ⟨h1, tk, rfl, hk⟩ := x.done
  have noA : ∀ b : Addr, b ∉ (cxOf CX P w K mg base N qual scope f cd A outer s H E).ex := fun b z => absurd (show b ∈ ([] : List Addr) from z) (by simp)
  refine ⟨⟨e0.mod, S.kind, rfl, rfl, Nat.le_refl _, fun y z c h1 h2 => ?_, fun y hy => ?_, fun y c _ h => ?_, fun _ => hd, Around.frames_deeper e0.frames, .inr ⟨rfl, rfl⟩, fun b z => absurd z (noA b), e0.bs, e0.bsz, fun b _ _ => noA b, fun b z => absurd z (noA b), e0.funs, e0.frf⟩,
    rfl, e0.bare, Un.kept hk, ⟨_, x.toInCall.ns, fun i y v h1 h2 h3 => ?_⟩, fun y c h => ⟨_, x.cell y c h⟩, e0.hok.fresh (Nat.le_refl _), fun y c h => ?_, fun p hp => absurd (show p ∈ ([] : List (Addr × Obj)) from hp) (by simp), e0.hok.kept hk, ?_⟩
  · exact name_of_addr x.apart (PySem.mem_of_lookup h1) (PySem.mem_of_lookup h2)
  · have hy : scope.names.lookup y = some .cell ∨ scope.names.lookup y = some .free := hy
    rcases hy with hy | hy
    · exact cell_has hy
    · exact absurd rfl (S.nofree _ (PySem.mem_of_lookup hy))
  · exact Nat.le_of_lt (x.above y c (PySem.mem_of_lookup h))
  · have hi : i < vs.length := by
      unfold start at h2
      by_cases hi : i < vs.length
      · exact hi
      · rw [List.getElem?_append_right (by simpa using hi)] at h2
        rw [List.getElem?_replicate] at h2
        split at h2 <;> cases h2
    have ha : vs[i]? = some v := by
      unfold start at h2
      rw [List.getElem?_append_left (by simpa using hi), List.getElem?_map] at h2
      cases e : vs[i]? with
      | none => rw [e] at h2; cases h2
      | some a => rw [e] at h2; cases h2; rfl
    obtain ⟨u, hu, rv⟩ := r.get ha
    have hp : ps[i]? = some y := by
      rw [← S.pre, List.getElem?_take_of_lt (by omega)]; exact h1
    have ndP : ps.Nodup := by rw [← S.pre]; exact S.nd.sublist (List.take_sublist _ _)
    refine ⟨u, rv, ?_⟩
    rcases S.par y (List.mem_of_getElem? hp) with k | k
    · exact .inl ⟨k, bindL_get ndP hp hu k⟩
    · obtain ⟨c, e⟩ := cell_has (n := s.heap.objs.size + 1) k
      refine .inr ⟨.inl k, c, e, ?_⟩
      have q := x.cell y c e
      rw [bindC_get ndP hp hu (by show scope.names.lookup y ≠ _; rw [k]; decide)] at q
      exact q
  · exact e0.hok.fresh (Nat.le_of_lt (x.above y c (PySem.mem_of_lookup h)))
  · unfold start
    show _ = N.length
    rw [List.length_append, List.length_map, List.length_replicate]
    omega

/-- THE RULE: a def (or a method) of the text, by its body. The body's reading t is chosen for each entry; it is run at the parameters' values -/
theorem fn_of {CX : CXT} {P : Program} {w : World} {K : PySem.W.Frag} {mg : Str → Option Value} {base : Heap} {k : Nat} {f : Addr} {name qual : Str} {params : Arguments} {body : List Stmt} {scope : Scope} {dV kV doc pm cdv ct oc : Value} {an od : Option Addr}
    {osl : Array (Option Value)} {N ps : List Str} {sp : Sp} (lk : K.lookup f = some ⟨oc, od, .func (PySem.W.fnOf name qual params body scope dV kV doc pm an cdv ct), osl⟩) (hcd : PySem.W.codeIn K cdv qual = true) (S : FnScope N ps scope)
    (len : ∀ vs H Q E, sp vs H Q E → vs.length = ps.length)
    (hbody : ∀ (A : Around) (outer : List Env) (s : Shared) (H : Hp) (vs : List V) (Q : VK) (E : XK), Room k (A.deeper (envOfC qual scope s.heap.objs.size f cdv)) → sp vs H Q E →
      ∃ t, PSs (cxOf CX P w K mg base N qual scope f cdv A outer s H E) body t ∧ t { nx := fun _ H' => Q .non H', rt := Q } (start N vs) H) :
    FnOk P w K mg base CX (k + 1) f (PySem.W.fnOf name qual params body scope dV kV doc pm an cdv ct) ps sp := by
  refine ⟨len, fun A outer s H args us vs Q E hr e0 hb r hsp => ?_⟩
  have hl := len _ _ _ _ hsp
  have KX : K.In s.heap := e0.mod.kin.keeps fun b o e => (e0.bs b o e).1
  have lim : s.heap.NoLimit := e0.mod.nolimit.keeps fun b o e => (e0.bs b o e).1
  have hkind : ∀ y ∈ ps.zip us, scope.names.lookup y.1 = some .local ∨ (scope.names.lookup y.1 = some .cell ∧ ((cellsFrom (s.heap.objs.size + 1) scope.names []).lookup y.1).isSome = true) := fun ⟨n, v⟩ hy => by
    rcases S.par n (List.of_mem_zip hy).1 with q | q
    · exact .inl q
    · exact .inr ⟨q, PySem.W.cellsFrom_some _ _ _ (.inl q)⟩
  refine codeAny_call_function hr.depth (KX _ _ lk) rfl S.co S.gen rfl (PySem.W.codeRec_of KX hcd) (hb _ _ _ _ ?_)
  refine wpAny_newFunctionEnv_cells S.kind hkind fun env he s1 x => ?_
  subst he
  refine ⟨lim.keeps x.toInCall.keep, codeAny_func ?_⟩
  obtain ⟨t, ht, hq⟩ := hbody A outer s H vs Q E (hr.deeper _) hsp
  have I : Inv (cxOf CX P w K mg base N qual scope f cdv A outer s H E) [] (start N vs) H s1 := inv_start S hr.hd e0 hl r x
  refine wpAny_mono (ht [] s1 (start N vs) H _ I hq) (fun fl s' hs => ?_) fun e s' hs => hs
  have fin : ∀ {σ' : St} {H' : Hp} {v : V} {u : Value}, Inv (cxOf CX P w K mg base N qual scope f cdv A outer s H E) [] σ' H' s' → RelV v u → Q v H' → CE outer P w H s Q u s' :=
    fun {σ' H' v u} J rv q => ⟨v, H', J.os, J.bare, J.base, J.hok, rv, q⟩
  cases fl with
  | ret u =>
    obtain ⟨v, σ', H', J, rv, q⟩ := hs
    exact fin J rv q
  | next =>
    obtain ⟨σ', H', J, q⟩ := hs
    exact fin (v := V.non) (u := Value.none) J rfl q
  | brk =>
    obtain ⟨_, _, _, q⟩ := hs
    exact False.elim q
  | cont =>
    obtain ⟨_, _, _, q⟩ := hs
    exact False.elim q
end L2

namespace L2
open PySem PySem.Spec PyProof.Rows
section
variable {X : Cx} {x : Str} {p pos : Pos} {e : Expr} {es : List Expr} {t : TA} {id T : String} {r : List V → Hp → VK → Prop}

def tCB (r : List V → Hp → VK → Prop) (t : TA) : TE := fun σ H Q => t σ H fun vs H1 => r vs H1 Q
/-- f(e, ..), f a built-in function -/
theorem pe_callB (hc : CallR X (.builtin id) r) (hg : Gl X x) (hm : X.mg x = none) (hv : bootBuiltins x = some (.builtin id)) (ha : PA X (e :: es) t) (hn : x ≠ "__name__" := by decide) (hdb : (x == ("__debug__" : Str)) = false := by decide)
    (he : starEach (e :: es) X.env = (false, eval e X.env) :: starEach es X.env := by rfl) (hpl : (backTo pos (starEach es X.env)).any (·.1) = false := by rfl) : PE X (.Call (.Name x p) (e :: es) [] pos) (tCB r t) := by
  intro pins s σ H Q I h
  refine wpAny_Call_Name_kw (ld_blt I hg hm hv ?_ hn hdb)
  exact PyProof.Rows.callWith_builtin1 (thn (ha pos pins s σ H _ I h) fun us s1 ⟨vs, H1, I1, r1, q1⟩ => hc pins s1 σ H1 vs us Q I1 r1 q1) he hpl
/-- T(e, ..), T a built-in type -/
theorem pe_callTy (hc : CallR X (.type T) r) (hg : Gl X x) (hm : X.mg x = none) (hv : bootBuiltins x = some (.type T)) (ha : PA X (e :: es) t) (hn : x ≠ "__name__" := by decide) (hdb : (x == ("__debug__" : Str)) = false := by decide)
    (he : starEach (e :: es) X.env = (false, eval e X.env) :: starEach es X.env := by rfl) (hpl : (backTo pos (starEach es X.env)).any (·.1) = false := by rfl) : PE X (.Call (.Name x p) (e :: es) [] pos) (tCB r t) := by
  intro pins s σ H Q I h
  refine wpAny_Call_Name_kw (ld_blt I hg hm hv ?_ hn hdb)
  exact PyProof.Rows.callWith_type1 (thn (ha pos pins s σ H _ I h) fun us s1 ⟨vs, H1, I1, r1, q1⟩ => hc pins s1 σ H1 vs us Q I1 r1 q1) he hpl
/-- T() -/
theorem pe_callTy0 (hc : CallR X (.type T) r) (hg : Gl X x) (hm : X.mg x = none) (hv : bootBuiltins x = some (.type T)) (hn : x ≠ "__name__" := by decide) (hdb : (x == ("__debug__" : Str)) = false := by decide) :
    PE X (.Call (.Name x p) [] [] pos) (tCB r tNil) := by
  intro pins s σ H Q I h
  refine wpAny_Call_Name_kw (ld_blt I hg hm hv ?_ hn hdb)
  exact PyProof.Rows.callWith_type0 (hc pins s σ H [] [] Q I .nil h)
end
end L2

namespace HT
open PySem PyProof.Rows

/-- t < u of tuples of ints -/
def lexLt : List Int → List Int → Bool
  | [], [] => false
  | [], _ :: _ => true
  | _ :: _, [] => false
  | x :: xs, y :: ys => if x = y then lexLt xs ys else decide (x < y)
theorem lexLt_cons (x y : Int) (xs ys : List Int) : lexLt (x :: xs) (y :: ys) = if x = y then lexLt xs ys else decide (x < y) := rfl
theorem lexLt_nil_nil : lexLt [] [] = false := rfl
theorem lexLt_nil_cons (y : Int) (ys : List Int) : lexLt [] (y :: ys) = true := rfl
theorem lexLt_cons_nil (x : Int) (xs : List Int) : lexLt (x :: xs) [] = false := rfl

theorem eqAt_int (A : Around) (s : Shared) (a : Int) (t : Tok) (c : Int) (u : Tok) : ∃ e, SeqAt.EqAt A s (.int a t) (.int c u) e ∧ (e = true ↔ a = c) :=
  ⟨(a == c), SeqAt.EqAt.int_int a t c u, by simp⟩
theorem rcLt_int (A : Around) (s : Shared) (a : Int) (t : Tok) (c : Int) (u : Tok) (prog : Program) (w : World) (E : Value → Shared → Prop) (Q : Value → Shared → Prop) (h : Q (.bool (decide (a < c))) s) :
    wpAny (model prog w) A (richCompare .Lt (.int a t) (.int c u)) Q E s :=
  (PyProof.Rows.lt_int h : wpAny (model prog w) A (compareOp .Lt (.int a t) (.int c u)) Q E s)

section
open PySem.SeqAt
open PySem.AutoSeq1 (wpAny_loadPart')
open PySem.MeetsSeq PySem.MeetsSeq2 PySem.MeetsSeq3

theorem tuple_lt_ints (l b : Addr) (items items2 : Array Value) (n n2 : Nat) (dd dd2 : Option Addr) (sl sl2 : Array (Option Value)) (ns ms : List Int) (hi : IntsAre items.toList ns) (hj : IntsAre items2.toList ms) :
    Meets (Builtin.«tuple.__lt__» ⟨[.ref l, .ref b], []⟩)
      (fun _ R s => s.heap.get? l = some { cls := .type "tuple", dict := dd, data := .seq items n, slots := sl } ∧ s.heap.get? b = some { cls := .type "tuple", dict := dd2, data := .seq items2 n2, slots := sl2 } ∧
        R (.ok (.ret (.bool (lexLt ns ms)))) s) :=
  .of_wp fun prog w A R s h => by
    obtain ⟨hp, g, d, tk, os⟩ := s; obtain ⟨hl, hb, h⟩ := h
    have f2 := AutoSeq1.sub_tuple_tuple
    have z1 : items.size = ns.length := by rw [← hi.length]; simp
    have z2 : items2.size = ms.length := by rw [← hj.length]; simp
    wp_walk using wpAny_loadPart' hl, wpAny_loadPart' hb, wpAny_forIn_list _ (fun rest b s' => b.1 = none ∧ s' = ⟨hp, g, d, tk, os⟩ ∧ ∃ (vs ws : List Value) (ns' ms' : List Int), rest = vs.zip ws ∧
      IntsAre vs ns' ∧ IntsAre ws ms' ∧ ns'.length + items2.size = ms'.length + items.size ∧ R (.ok (.ret (.bool (lexLt ns' ms')))) ⟨hp, g, d, tk, os⟩) _
    case turn =>
      rintro ⟨y, x⟩ rest b s' ⟨hb', rfl, vs, ws, ns', ms', hz, hvi, hwi, hlen, hR⟩
      cases hvi with
      | nil => rw [List.zip_nil_left] at hz; cases hz
      | cons a t hvi' =>
        cases hwi with
        | nil => rw [List.zip_nil_right] at hz; cases hz
        | cons c u hwi' =>
          rw [List.zip_cons_cons] at hz
          injection hz with hyx hrest
          injection hyx with hy hx
          subst hy hx
          rw [lexLt_cons] at hR
          simp only [List.length_cons] at hlen
          obtain ⟨e, he, hiff⟩ := eqAt_int A.in1 ⟨hp, g, d, tk, os⟩ a t c u
          refine wpAny_bind (he prog w _ _ ?_)
          cases e with
          | true =>
            rw [if_pos (hiff.mp rfl)] at hR
            wp_walk
            exact ⟨rfl, rfl, _, _, _, _, hrest, hvi', hwi', by omega, hR⟩
          | false =>
            rw [if_neg (fun q => absurd (hiff.mpr q) Bool.false_ne_true)] at hR
            have hri := rcLt_int A.in1 ⟨hp, g, d, tk, os⟩ a t c u prog w
            wp_walk using hri
            exact ⟨_, rfl, by simpa using hR⟩
    case fin =>
      rintro ⟨b1, b2⟩ s' ⟨hb', rfl, vs, ws, ns', ms', hz, hvi, hwi, hlen, hR⟩
      simp only at hb'
      subst hb'
      have hv : lexLt ns' ms' = decide (items.size < items2.size) := by
        cases hvi with
        | nil =>
          cases hwi with
          | nil =>
            simp only [List.length_nil] at hlen
            rw [lexLt_nil_nil]
            exact (decide_eq_false (by omega)).symm
          | cons c u hw =>
            simp only [List.length_nil, List.length_cons] at hlen
            rw [lexLt_nil_cons]
            exact (decide_eq_true (by omega)).symm
        | cons a t hv =>
          cases hwi with
          | nil =>
            simp only [List.length_nil, List.length_cons] at hlen
            rw [lexLt_cons_nil]
            exact (decide_eq_false (by omega)).symm
          | cons c u hw =>
            rw [List.zip_cons_cons] at hz
            cases hz
      rw [hv] at hR
      wp_walk
      exact ⟨_, rfl, by simpa [Builtin.Tuple.tupleCompareSizes] using hR⟩
    case h =>
      exact ⟨rfl, rfl, items.toList, items2.toList, ns, ms, rfl, hi, hj, by omega, h⟩
end

section
variable {prog : Program} {w : World} {A : Around} {E : Value → Shared → Prop} {s : Shared}

theorem lt_tupInts {l b : Addr} {items items2 : Array Value} {ns ms : List Int} {Q : Value → Shared → Prop} (hl : IsTup s.heap l items) (hb : IsTup s.heap b items2) (hi : IntsAre items.toList ns) (hj : IntsAre items2.toList ms)
    (hu : A.units < cLine) (h : Q (.bool (lexLt ns ms)) s) : wpAny (model prog w) A (compareOp .Lt (.ref l) (.ref b)) Q E s := by
  obtain ⟨⟨cls, dd, data, sl⟩, ho, hc, n, hd⟩ := id hl
  obtain ⟨⟨cls2, dd2, data2, sl2⟩, ho2, hc2, n2, hd2⟩ := id hb
  simp only at hc hd hc2 hd2
  subst hc hd hc2 hd2
  exact richCompare_meets_room (op := .Lt) ⟨_, ho, rfl⟩ ⟨_, ho2, rfl⟩ PySem.F.slot_tuple_lt PySem.F.entry_tuple_lt (PySem.F.args_tuple_lt_2 _ _) (tuple_lt_ints l b items items2 n n2 dd dd2 sl sl2 ns ms hi hj)
    ⟨ho, ho2, show Value.bool (lexLt ns ms) ≠ Value.notImplemented ∧ Q (.bool (lexLt ns ms)) s from ⟨(fun x => nomatch x), h⟩⟩ hu

/-- t + u, t not empty -/
theorem cat_tup {t b : Addr} {vs ws : List Value} {Q : Value → Shared → Prop} (ht : IsTup s.heap t vs.toArray) (hb : IsTup s.heap b ws.toArray) (hv : vs ≠ [])
    (h1 : ws = [] → Q (.ref t) s) (h2 : ws ≠ [] → Q (.ref s.heap.objs.size) { s with heap := s.heap.push { cls := .type "tuple", data := .seq (vs ++ ws).toArray } })
    (hsz : vs.length + ws.length ≤ sizeLine) : wpAny (model prog w) A (binaryOp .Add (.ref t) (.ref b)) Q E s := by
  obtain ⟨⟨cls, dd, data, sl⟩, ho, hc, n, hd⟩ := id ht
  obtain ⟨⟨cls2, dd2, data2, sl2⟩, ho2, hc2, n2, hd2⟩ := id hb
  simp only at hc hd hc2 hd2
  subst hc hd hc2 hd2
  have e : vs.toArray ++ ws.toArray = (vs ++ ws).toArray := by simp
  by_cases hw : ws = []
  · exact concat_meets ⟨_, ho, rfl⟩ ⟨_, ho2, rfl⟩ noFill_tuple_add seq_tuple_add PySem.F.slot_tuple_add PySem.F.entry_tuple_add (PySem.F.args_tuple_add_2 _ _)
      (tuple_addW1 t b vs.toArray ws.toArray n n2 dd dd2 sl sl2 (by simpa using hv) (by simp [hw])) ⟨ho, ho2, h1 hw⟩
  · refine concat_meets ⟨_, ho, rfl⟩ ⟨_, ho2, rfl⟩ noFill_tuple_add seq_tuple_add PySem.F.slot_tuple_add PySem.F.entry_tuple_add (PySem.F.args_tuple_add_2 _ _)
      (tuple_addW2 t b vs.toArray ws.toArray n n2 dd dd2 sl sl2 (by simpa using hv) (by simpa using hw) (by rw [List.size_toArray, List.size_toArray]; exact hsz)) ⟨ho, ho2, ?_⟩
    rw [e]
    exact h2 hw

/-! ### t[a:b], not the whole -/
/-- a slice's bound as a place among n (d where it is left out) -/
def sIx (n d : Nat) : Option Int → Nat
  | none => d
  | some v => if v < 0 then (v + (n : Int)).toNat else min v.toNat n
theorem sIx_none (n d : Nat) : sIx n d none = d := rfl
theorem sIx_nat (n d k : Nat) : sIx n d (some (k : Int)) = min k n := by
  show (if (k : Int) < 0 then ((k : Int) + (n : Int)).toNat else min (k : Int).toNat n) = min k n
  rw [if_neg (by omega), Int.toNat_natCast]
theorem sIx_le (n d : Nat) (hd : d ≤ n) (o : Option Int) : sIx n d o ≤ n := by
  cases o with
  | none => exact hd
  | some v =>
    show (if v < 0 then (v + (n : Int)).toNat else min v.toNat n) ≤ n
    by_cases hv : v < 0
    · rw [if_pos hv]; omega
    · rw [if_neg hv]; exact Nat.min_le_right _ _
theorem clip_eq (v : Int) (n d : Nat) : (if v < 0 then max (v + (n : Int)) 0 else min v (n : Int)) = ((sIx n d (some v) : Nat) : Int) := by
  show (if v < 0 then max (v + (n : Int)) 0 else min v (n : Int)) = (((if v < 0 then (v + (n : Int)).toNat else min v.toNat n) : Nat) : Int)
  by_cases hv : v < 0
  · simp only [if_pos hv]; omega
  · simp only [if_neg hv]; omega
theorem adjust_gen (lo hi : Option Int) (n : Nat) : Builtin.Slice.sliceAdjust lo hi 1 (n : Int) = (((sIx n 0 lo : Nat) : Int), ((sIx n n hi : Nat) : Int)) := by
  have h1 : ¬ ((1 : Int) < 0) := by omega
  unfold Builtin.Slice.sliceAdjust
  simp only [h1, if_false]
  refine Prod.ext ?_ ?_
  · cases lo with
    | none => rfl
    | some v => exact clip_eq v n 0
  · cases hi with
    | none => rfl
    | some v => exact clip_eq v n n
theorem places_gen (i j : Nat) : Builtin.Slice.slicePlaces (i : Int) (j : Int) 1 = j - i := by
  unfold Builtin.Slice.slicePlaces
  have h1 : (1 : Int) > 0 := by omega
  simp only [h1, if_true, Int.ediv_one]
  split <;> omega
theorem slicePart_ {v : Value} {o : Option Int} {Q : Option Int → Shared → Prop} (p : IsPart v o) (h : Q o s) : wpAny (model prog w) A (Builtin.Slice.slicePartIndex v) Q E s := by
  cases p with
  | none => exact slicePart_none h
  | int i t => exact slicePart_int h
theorem sliceApplied_gen {sl : Addr} {vl vu : Value} {lo hi : Option Int} {n : Nat} {Q : Int × Int × Nat → Shared → Prop} (hs : s.heap.IsSliceOf sl vl vu .none) (pl : IsPart vl lo) (pu : IsPart vu hi)
    (h : Q (((sIx n 0 lo : Nat) : Int), 1, sIx n n hi - sIx n 0 lo) s) : wpAny (model prog w) A (Builtin.Slice.sliceApplied (.ref sl) (pure (n : Int))) Q E s := by
  obtain ⟨os, hos, hcs, hds⟩ := id hs
  unfold Builtin.Slice.sliceApplied Builtin.Slice.sliceFields
  refine wpAny_bind (wpAny_bind (wpAny_field hos hds (x := vl) rfl (wpAny_bind (wpAny_field hos hds (x := vu) rfl (wpAny_bind (wpAny_field hos hds (x := .none) rfl (wpAny_pure ?_)))))))
  refine wpAny_bind (slicePart_none ?_)
  show wpAny _ _ (if ((1 : Int) == 0) = true then _ else _) _ _ s
  rw [if_neg (by decide)]
  refine wpAny_bind (slicePart_ pl (wpAny_bind (slicePart_ pu (wpAny_bind (wpAny_pure ?_)))))
  show wpAny _ _ (match Builtin.Slice.sliceAdjust lo hi 1 (n : Int) with | (lo, hi) => pure (lo, (1 : Int), Builtin.Slice.slicePlaces lo hi 1)) _ _ s
  rw [adjust_gen lo hi n]
  show wpAny _ _ (pure (((sIx n 0 lo : Nat) : Int), (1 : Int), Builtin.Slice.slicePlaces ((sIx n 0 lo : Nat) : Int) ((sIx n n hi : Nat) : Int) 1)) _ _ s
  rw [places_gen]
  exact wpAny_pure h
theorem pick_gen (xs : Array Value) (i k : Nat) : ((List.range k).filterMap fun (m : Nat) => xs[((i : Int) + (m : Int) * 1).toNat]?).toArray = ((xs.toList.drop i).take k).toArray := by
  have e : (fun (m : Nat) => xs[((i : Int) + (m : Int) * 1).toNat]?) = fun m => xs[i + m]? := by
    funext m
    have : ((i : Int) + (m : Int) * 1).toNat = i + m := by omega
    rw [this]
  rw [e]
  have := pick_run xs i k
  rw [List.filterMap_map] at this
  have e2 : ((fun x => xs[x]?) ∘ fun x => i + x) = fun m => xs[i + m]? := rfl
  rw [e2] at this
  rw [this]

theorem getItem_tuple_cut {t sl : Addr} {items : Array Value} {vl vu : Value} {lo hi : Option Int} {Q : Value → Shared → Prop} (ht : IsTup s.heap t items) (hs : s.heap.IsSliceOf sl vl vu .none) (pl : IsPart vl lo) (pu : IsPart vu hi)
    (hw : ¬ (sIx items.size 0 lo = 0 ∧ sIx items.size items.size hi = items.size))
    (h : Q (.ref s.heap.objs.size) { s with heap := s.heap.push { cls := .type "tuple", data := .seq ((items.toList.drop (sIx items.size 0 lo)).take (sIx items.size items.size hi - sIx items.size 0 lo)).toArray } })
    (hsz : items.size ≤ sizeLine) : wpAny (model prog w) A (getItem (.ref t) (.ref sl)) Q E s := by
  have htake : sizeOk (.seq ((items.toList.drop (sIx items.size 0 lo)).take (sIx items.size items.size hi - sIx items.size 0 lo)).toArray) := by
    show ((items.toList.drop (sIx items.size 0 lo)).take (sIx items.size items.size hi - sIx items.size 0 lo)).toArray.size ≤ sizeLine
    rw [List.size_toArray, List.length_take, List.length_drop, Array.length_toList]
    omega
  have hj : sIx items.size items.size hi ≤ items.size := sIx_le _ _ (Nat.le_refl _) hi
  obtain ⟨os, hos, hcs, hds⟩ := id hs
  have hTs : s.TypeIs (.ref sl) "slice" := ⟨os, hos, hcs⟩
  unfold getItem
  try with_reducible refine wpAny_holding ?_
  first | refine wpAny_bind (wpAny_pure ?_) | skip
  refine wpAny_bind (wpAny_sequenceKey ht.typeIs (by decide) ?_)
  refine wpAny_bind (wpAny_callSpecial?_slot (name := Str.ofString "__getitem__") ht.typeIs PyProof.Rows.slot_tuple_getitem
    (wpAny_call_entry PyProof.Rows.slot_tuple_getitem ht.typeIs entry_tuple_getitem ?_ (args_tuple_getitem _ _)))
  show wpAny _ _ (Builtin.Tuple.tupleItemsOf (.ref t) >>= _) _ _ s
  refine wpAny_bind (tupleItemsOf_ ht ?_)
  refine wpAny_bind (wpAny_typeOf hTs ?_)
  rw [if_pos (by decide)]
  refine wpAny_bind (sliceApplied_gen hs pl pu ?_)
  have hno : ¬ ((((sIx items.size 0 lo : Nat) : Int) == 0 && (1 : Int) == 1 && (sIx items.size items.size hi - sIx items.size 0 lo) == items.size) = true) := by
    intro q
    rw [Bool.and_eq_true, Bool.and_eq_true] at q
    have q1 : ((sIx items.size 0 lo : Nat) : Int) = 0 := eq_of_beq q.1.1
    have q2 : sIx items.size items.size hi - sIx items.size 0 lo = items.size := eq_of_beq q.2
    exact hw ⟨by omega, by omega⟩
  show wpAny _ _ (if (((sIx items.size 0 lo : Nat) : Int) == 0 && (1 : Int) == 1 && (sIx items.size items.size hi - sIx items.size 0 lo) == items.size) = true then _ else _) _ _ s
  rw [if_neg hno, pick_gen]
  first
    | exact wpAny_bind (m := Builtin.Tuple.tupleExact _) (wpAny_newObj_type (wpAny_pure ⟨_, rfl, wpAny_pure h⟩) htake)
    | exact wpAny_bind (m := Builtin.Tuple.tupleExact _) (wpAny_newObj_type (wpAny_bind (wpAny_pure (wpAny_pure ⟨_, rfl, wpAny_pure h⟩))) htake)
    | exact wpAny_bind (wpAny_bind (m := Builtin.Tuple.tupleExact _) (wpAny_newObj_type (wpAny_pure (wpAny_pure ⟨_, rfl, wpAny_pure h⟩)) htake))
    | exact wpAny_bind (wpAny_bind (m := Builtin.Tuple.tupleExact _) (wpAny_newObj_type (wpAny_pure ⟨_, rfl, wpAny_pure h⟩) htake))
end
end HT

namespace L2
open PySem PySem.Spec PyProof.Rows

/-! ### the parts of a slice -/
abbrev TO := St → Hp → (Option Int → Hp → Prop) → Prop
/-- a slice's part (left out, or an int) -/
def PO (X : Cx) (e : Option Expr) (t : TO) : Prop :=
  ∀ (pins : List (Addr × Obj)) (s : Shared) (σ : St) (H : Hp) (Q : Option Int → Hp → Prop), Inv X pins σ H s → t σ H Q →
    wpAny (model X.prog X.w) X.A (evalPart e X.env) (fun u s' => ∃ o H', Inv X pins σ H' s' ∧ IsPart u o ∧ Q o H') X.xe s
def tNoPart : TO := fun _ H Q => Q none H
def tPart (t : TE) : TO := fun σ H Q => t σ H fun x H1 => ∃ i, x = .int i ∧ Q (some i) H1

theorem intsAre_of {ns : List Int} : ∀ {us : List Value}, Vals (ns.map V.int) us → IntsAre us ns := by
  induction ns with
  | nil => intro us r; rw [List.map_nil] at r; cases r; exact .nil
  | cons n ns ih =>
    intro us r
    rw [List.map_cons] at r
    cases r with
    | cons r1 r2 =>
      obtain ⟨t, e⟩ := r1
      subst e
      exact .cons n t (ih r2)

section
variable {X : Cx} {e : Expr} {te : TE} {lo hi : Option Expr} {tl th : TO} {pos p2 : Pos}

theorem po_none : PO X none tNoPart := by
  intro pins s σ H Q I h
  rw [evalPart_none]
  exact wpAny_pure ⟨none, H, I, .none, h⟩
theorem po_some (h : PE X e te) : PO X (some e) (tPart te) := by
  intro pins s σ H Q I hw
  rw [evalPart_some]
  refine thn (h pins s σ H _ I hw) fun u s1 ⟨x, H1, I1, r1, q1⟩ => ?_
  obtain ⟨i, rfl, q⟩ := q1
  obtain ⟨t, rfl⟩ := r1
  exact ⟨some i, H1, I1, .int i t, q⟩

/-- what a slice of a value is, by values: the slice object stands at sl -/
def SlR (X : Cx) (r : V → Option Int → Option Int → Hp → VK → Prop) : Prop :=
  ∀ (pins : List (Addr × Obj)) (s : Shared) (σ : St) (H : Hp) (x : V) (v vl vu : Value) (lo hi : Option Int) (sl : Addr) (Q : VK), Inv X pins σ H s → RelV x v → s.heap.IsSliceOf sl vl vu .none → IsPart vl lo → IsPart vu hi → r x lo hi H Q →
    ∃ T id, typeLookup (.type T) "__getitem__" = pure (some (.builtin id)) ∧ s.TypeIs v T ∧ wpAny (model X.prog X.w) X.A (getItem v (.ref sl)) (EP X pins σ Q) X.xe s
theorem SlR.or {r r' : V → Option Int → Option Int → Hp → VK → Prop} (h : SlR X r) (h' : SlR X r') : SlR X (fun x lo hi H Q => r x lo hi H Q ∨ r' x lo hi H Q) := by
  intro pins s σ H x v vl vu lo hi sl Q I rx hs pl pu q
  rcases q with q | q
  · exact h pins s σ H x v vl vu lo hi sl Q I rx hs pl pu q
  · exact h' pins s σ H x v vl vu lo hi sl Q I rx hs pl pu q
def tSl (r : V → Option Int → Option Int → Hp → VK → Prop) (te : TE) (tl th : TO) : TE := fun σ H Q => te σ H fun x H1 => tl σ H1 fun l H2 => th σ H2 fun u H3 => r x l u H3 Q
/-- a[lo:hi], any a -/
theorem pe_slice {r : V → Option Int → Option Int → Hp → VK → Prop} (hr : SlR X r) (he : PE X e te) (hl : PO X lo tl) (hu : PO X hi th) : PE X (.Subscript e (.Slice lo hi none p2) pos) (tSl r te tl th) := by
  intro pins s σ H Q I h
  refine Subscript_ (thn (he pins s σ H _ I h) fun v s1 ⟨x, H1, I1, r1, q1⟩ => ?_)
  refine wpAny_Slice (thn (hl pins s1 σ H1 _ I1 q1) fun vl s2 ⟨l, H2, I2, pl, q2⟩ => thn (hu pins s2 σ H2 _ I2 q2) fun vu s3 ⟨u, H3, I3, pu, q3⟩ => ?_)
  rw [evalPart_none]
  refine wpAny_pure ?_
  have I4 : Inv X pins σ H3 { s3 with heap := s3.heap.push { cls := .type "slice", data := .fields #[vl, vu, .none] } } := I3.kept (t' := s3.toks) fun b ob q => Heap.get?_push_of_some _ q
  obtain ⟨T, id, hT, ht, hg⟩ := hr pins { s3 with heap := s3.heap.push { cls := .type "slice", data := .fields #[vl, vu, .none] } } σ H3 x v vl vu l u s3.heap.objs.size Q I4 r1 (Heap.IsSliceOf.new ..) pl pu q3
  show wpAny (model X.prog X.w) X.A (subscriptTail e (.Slice lo hi none p2) v (.ref s3.heap.objs.size)) (EP X pins σ Q) X.xe { s3 with heap := s3.heap.push { cls := .type "slice", data := .fields #[vl, vu, .none] } }
  exact tail_any (ops := [.ref s3.heap.objs.size, v]) ht hT hg (by with_unfolding_all rfl)

/-- the items of xs[lo:hi] -/
def cutV (xs : List V) (lo hi : Option Int) : List V := (xs.drop (HT.sIx xs.length 0 lo)).take (HT.sIx xs.length xs.length hi - HT.sIx xs.length 0 lo)
theorem cutV_length (xs : List V) (lo hi : Option Int) : (cutV xs lo hi).length ≤ xs.length := by
  unfold cutV
  rw [List.length_take, List.length_drop]
  omega
/-- t[lo:hi], not the whole of it (the whole would be t itself) -/
def rSlT (K : PySem.W.Frag) : V → Option Int → Option Int → Hp → VK → Prop := fun x lo hi H Q => ∃ a xs, x = .ref a ∧ SqT K H a xs ∧
  ¬ (HT.sIx xs.length 0 lo = 0 ∧ HT.sIx xs.length xs.length hi = xs.length) ∧ ∀ p, H p = none → Q (.ref p) (upd H p (.tup (cutV xs lo hi)))
theorem sl_tup : SlR X (rSlT X.K) := by
  intro pins s σ H x v vl vu lo hi sl Q I rx hs pl pu h
  obtain ⟨a, xs, rfl, hx, hw, q⟩ := h
  cases rx
  obtain ⟨its, r, ht, hz⟩ := I.tuple hx
  have hlen : its.toArray.size = xs.length := by rw [List.size_toArray]; exact r.length.symm
  refine ⟨"tuple", _, PyProof.Rows.slot_tuple_getitem.lookup, ht.typeIs, ?_⟩
  refine HT.getItem_tuple_cut ht hs pl pu (by rw [hlen]; exact hw) ?_ (by rw [hlen]; exact hz)
  rw [hlen]
  refine ⟨.ref s.heap.objs.size, _, I.laid (t' := s.toks) (o := .tup (cutV xs lo hi)) (fun b ob q => Heap.get?_push_of_some _ q) (Nat.le_refl _) ?_, rfl, q _ (I.hok.fresh (Nat.le_refl _))⟩
  exact ⟨Nat.le_trans (cutV_length xs lo hi) hz, _, (r.drop (HT.sIx xs.length 0 lo)).take (HT.sIx xs.length xs.length hi - HT.sIx xs.length 0 lo), TupX.new _ _⟩

/-! ### t < u, t + u -/
def rLtT (K : PySem.W.Frag) : R2 := fun x y H Q => ∃ a b ns ms, x = .ref a ∧ y = .ref b ∧ SqT K H a (ns.map V.int) ∧ SqT K H b (ms.map V.int) ∧ Q (.bl (HT.lexLt ns ms)) H
theorem op_ltT (hu : X.A.units < cLine) : OpR X (compareOp .Lt) (rLtT X.K) := by
  intro pins s σ H x y v u Q I rx ry h
  obtain ⟨a, b, ns, ms, rfl, rfl, ha, hb, q⟩ := h
  cases rx
  cases ry
  obtain ⟨its, r1, p1, _⟩ := I.tuple ha
  obtain ⟨its2, r2, p2, _⟩ := I.tuple hb
  have i1 : IntsAre its.toArray.toList ns := intsAre_of r1
  have i2 : IntsAre its2.toArray.toList ms := intsAre_of r2
  exact HT.lt_tupInts p1 p2 i1 i2 hu ⟨.bl (HT.lexLt ns ms), H, I, rfl, q⟩
/-- t + u, t not empty: u empty gives t itself -/
def rCatT (K : PySem.W.Frag) : R2 := fun x y H Q => ∃ a b xs ys, x = .ref a ∧ y = .ref b ∧ SqT K H a xs ∧ SqT K H b ys ∧ xs ≠ [] ∧ xs.length + ys.length ≤ sizeLine ∧
  (ys = [] → Q (.ref a) H) ∧ (ys ≠ [] → ∀ p, H p = none → Q (.ref p) (upd H p (.tup (xs ++ ys))))
theorem Vals.nil_iff {xs : List V} {us : List Value} (r : Vals xs us) : us = [] ↔ xs = [] := by
  cases r with
  | nil => simp
  | cons _ _ => simp
theorem op_catT : OpR X (binaryOp .Add) (rCatT X.K) := by
  intro pins s σ H x y v u Q I rx ry h
  obtain ⟨a, b, xs, ys, rfl, rfl, ha, hb, hx, hz, q1, q2⟩ := h
  cases rx
  cases ry
  obtain ⟨its, r1, p1, _⟩ := I.tuple ha
  obtain ⟨its2, r2, p2, _⟩ := I.tuple hb
  refine HT.cat_tup p1 p2 (fun z => hx (r1.nil_iff.mp z)) (fun z => ⟨.ref a, H, I, rfl, q1 (r2.nil_iff.mp z)⟩) (fun z => ?_) (by rw [← r1.length, ← r2.length]; exact hz)
  refine ⟨.ref s.heap.objs.size, _, I.laid (t' := s.toks) (o := .tup (xs ++ ys)) (fun b ob q => Heap.get?_push_of_some _ q) (Nat.le_refl _) ?_, rfl, q2 (fun w => z (r2.nil_iff.mpr w)) _ (I.hok.fresh (Nat.le_refl _))⟩
  exact ⟨by rw [List.length_append]; exact hz, _, r1.append r2, TupX.new _ _⟩
/-- tuple(t) -/
theorem call_tupleT : CallR X (.type "tuple") (fun xs H Q => ∃ a ys, xs = [.ref a] ∧ SqT X.K H a ys ∧ Q (.ref a) H) := by
  intro pins s σ H xs us Q I r h
  obtain ⟨a, ys, rfl, ha, q⟩ := h
  obtain ⟨u, rfl, ru⟩ := vals1 r
  cases ru
  obtain ⟨its, _, p1, _⟩ := I.tuple ha
  exact call_tuple_same (items := its.toArray) p1 ⟨.ref a, H, I, rfl, q⟩
end
end L2

namespace L2
open PySem PySem.Spec PyProof.Rows

/-! ### places -/
/-- the place that an index of any sign means -/
def ixN (n : Nat) (i : Int) : Option Nat := if 0 ≤ i then (if i < n then some i.toNat else none) else if -(n : Int) ≤ i then some (i + n).toNat else none
def atI {α : Type} (xs : List α) (i : Int) : Option α := (ixN xs.length i).bind fun j => xs[j]?
theorem ixN_seq {n : Nat} {i : Int} {j : Nat} (h : ixN n i = some j) : seqIndex? i n = some j ∧ j < n ∧ -(n : Int) ≤ i ∧ i < n := by
  unfold ixN at h
  by_cases h0 : 0 ≤ i
  · rw [if_pos h0] at h
    by_cases h1 : i < n
    · rw [if_pos h1] at h
      have e : i.toNat = j := Option.some.inj h
      exact ⟨by rw [seqIndex_of h0 h1, e], by omega, by omega, h1⟩
    · rw [if_neg h1] at h; cases h
  · rw [if_neg h0] at h
    by_cases h1 : -(n : Int) ≤ i
    · rw [if_pos h1] at h
      have e : (i + n).toNat = j := Option.some.inj h
      exact ⟨by rw [seqIndex_neg (by omega) h1, e], by omega, h1, by omega⟩
    · rw [if_neg h1] at h; cases h
theorem atI_get {α : Type} {xs : List α} {i : Int} {v : α} (h : atI xs i = some v) : ∃ j, seqIndex? i xs.length = some j ∧ xs[j]? = some v ∧ j < xs.length ∧ -(xs.length : Int) ≤ i ∧ i < xs.length := by
  unfold atI at h
  cases e : ixN xs.length i with
  | none => rw [e] at h; cases h
  | some j =>
    rw [e] at h
    obtain ⟨h1, h2, h3, h4⟩ := ixN_seq e
    exact ⟨j, h1, h, h2, h3, h4⟩
theorem atI_nat {α : Type} {xs : List α} {j : Nat} {v : α} (h : xs[j]? = some v) : atI xs (j : Int) = some v := by
  have hj : j < xs.length := (List.getElem?_eq_some_iff.mp h).1
  have e : ixN xs.length (j : Int) = some j := by
    unfold ixN
    rw [if_pos (by omega), if_pos (by omega)]; simp
  unfold atI; rw [e]; exact h
theorem atI_last {α : Type} (xs : List α) (v : α) : atI (xs ++ [v]) (-1) = some v := by
  have hl : (xs ++ [v]).length = xs.length + 1 := by simp
  have e : ixN (xs ++ [v]).length (-1) = some xs.length := by
    unfold ixN
    rw [hl, if_neg (by decide), if_pos (by omega)]
    congr 1
    omega
  unfold atI
  rw [e]
  show (xs ++ [v])[xs.length]? = some v
  simp

/-! ### what may be subscripted -/
/-- what stands as an index of a plain subscript -/
def PlainIx (b : Expr) : Prop := ∀ o i, subscripted b false o i = operate [o, i] (getItem o i)
/-- a subscript by values -/
def IxR (X : Cx) (r : R2) : Prop :=
  ∀ (value slice : Expr) (pins : List (Addr × Obj)) (s : Shared) (σ : St) (H : Hp) (x y : V) (v u : Value) (Q : VK), Inv X pins σ H s → RelV x v → RelV y u → r x y H Q →
    subscripted slice false v u = operate [v, u] (getItem v u) → wpAny (model X.prog X.w) X.A (subscriptTail value slice v u) (EP X pins σ Q) X.xe s
/-- a call of a builtin's method by values: the receiver, the arguments -/
def MtR (X : Cx) (id : String) (r : V → List V → Hp → VK → Prop) : Prop :=
  ∀ (pins : List (Addr × Obj)) (s : Shared) (σ : St) (H : Hp) (x : V) (xs : List V) (v : Value) (us : List Value) (Q : VK), Inv X pins σ H s → RelV x v → Vals xs us → r x xs H Q →
    wpAny (model X.prog X.w) X.A (call (.builtin id) (v :: us)) (EP X pins σ Q) X.xe s
section
variable {X : Cx} {a b : Expr} {ta tb : TE} {pos : Pos}
theorem IxR.or {r r' : R2} (h : IxR X r) (h' : IxR X r') : IxR X (fun x y H Q => r x y H Q ∨ r' x y H Q) := by
  intro value slice pins s σ H x y v u Q I rx ry q hs
  rcases q with q | q
  · exact h value slice pins s σ H x y v u Q I rx ry q hs
  · exact h' value slice pins s σ H x y v u Q I rx ry q hs
theorem MtR.or {id : String} {r r' : V → List V → Hp → VK → Prop} (h : MtR X id r) (h' : MtR X id r') : MtR X id (fun x xs H Q => r x xs H Q ∨ r' x xs H Q) := by
  intro pins s σ H x xs v us Q I rx rs q
  rcases q with q | q
  · exact h pins s σ H x xs v us Q I rx rs q
  · exact h' pins s σ H x xs v us Q I rx rs q
/-- a[b] -/
theorem pe_ix {r : R2} (hr : IxR X r) (ha : PE X a ta) (hb : PE X b tb) (hs : PlainIx b) : PE X (.Subscript a b pos) (tOp r ta tb) := by
  intro pins s σ H Q I h
  exact Subscript_ (binT ha hb I h fun v u s2 x y H2 I2 rx ry q => hr a b pins s2 σ H2 x y v u Q I2 rx ry q (hs _ _))

def rIxL (K : PySem.W.Frag) : R2 := fun x y H Q => ∃ p xs i v, x = .ref p ∧ y = .int i ∧ SqL K H p xs ∧ atI xs i = some v ∧ Q v H
def rIxT (K : PySem.W.Frag) : R2 := fun x y H Q => ∃ p xs i v, x = .ref p ∧ y = .int i ∧ SqT K H p xs ∧ atI xs i = some v ∧ Q v H
def rIxS : R2 := fun x y H Q => ∃ z i c, x = .str z ∧ y = .int i ∧ z.length ≤ sizeLine ∧ atI z.cps.toList i = some c ∧ Q (.str ⟨#[c]⟩) H
theorem ix_list : IxR X (rIxL X.K) := by
  intro value slice pins s σ H x y v u Q I rx ry h hs
  obtain ⟨p, xs, i, z, rfl, rfl, hq, he, q⟩ := h
  cases rx
  obtain ⟨t, rfl⟩ := ry
  obtain ⟨its, r, pl, hz⟩ := I.list hq
  obtain ⟨j, h1, h2, h3, h4, h5⟩ := atI_get he
  obtain ⟨w, ew, rw'⟩ := r.get h2
  have hl := r.length
  have hn := line63
  have fin : EP X pins σ Q w s := ⟨z, H, I, rw', q⟩
  by_cases h0 : 0 ≤ i
  · have hj : i.toNat = j := by
      rw [seqIndex_of h0 h5] at h1
      exact Option.some.inj h1
    exact item_listR pl.isList h0 (by omega) (by rw [hj]; simpa using ew) fin hs
  · have hj : (i + (its.toArray.size : Int)).toNat = j := by
      rw [seqIndex_neg (by omega) h4] at h1
      rw [List.size_toArray, ← hl]
      exact Option.some.inj h1
    exact subscriptTail_builtinR (x := w) pl.isList.typeIs slot_list_getitem.lookup
      (wpAny_getItem_list_neg (Q := fun r s' => r = w ∧ EP X pins σ Q r s') pl.isList (by omega) (by rw [List.size_toArray] <;> omega) (by omega) (by rw [hj]; simpa using ew) ⟨rfl, fin⟩) hs
theorem ix_tup : IxR X (rIxT X.K) := by
  intro value slice pins s σ H x y v u Q I rx ry h hs
  obtain ⟨p, xs, i, z, rfl, rfl, hq, he, q⟩ := h
  cases rx
  obtain ⟨t, rfl⟩ := ry
  obtain ⟨its, r, pl, hz⟩ := I.tuple hq
  obtain ⟨j, h1, h2, h3, h4, h5⟩ := atI_get he
  obtain ⟨w, ew, rw'⟩ := r.get h2
  have hl := r.length
  have hn := line63
  have fin : EP X pins σ Q w s := ⟨z, H, I, rw', q⟩
  exact subscriptTail_builtinR (x := w) pl.typeIs slot_tuple_getitem.lookup
    (getItem_tuple (j := j) (Q := fun r s' => r = w ∧ EP X pins σ Q r s') pl (by omega) (by omega) (by rw [List.size_toArray, ← hl]; exact h1) (by simpa using ew) ⟨rfl, fin⟩) hs
theorem ix_str : IxR X rIxS := by
  intro value slice pins s σ H x y v u Q I rx ry h hs
  obtain ⟨z, i, c, rfl, rfl, hz, he, q⟩ := h
  obtain ⟨t, rfl⟩ := rx
  obtain ⟨t', rfl⟩ := ry
  obtain ⟨j, h1, h2, h3, h4, h5⟩ := atI_get he
  have hl : z.cps.toList.length = z.length := by simp [Str.length]
  rw [hl] at h1 h4 h5
  have hn := line63
  exact tail_any (typeIs_str s z t) slot_str_getitem.lookup (getItem_str (c := c) (by
    have e1 : decide (i < -(2 ^ 63 : Int)) = false := decide_eq_false (by omega)
    have e2 : decide (i ≥ 2 ^ 63) = false := decide_eq_false (by omega)
    rw [e1, e2, Bool.or_false]) (by rw [h1]; simpa using h2) ⟨.str ⟨#[c]⟩, H, I.tok _, ⟨_, rfl⟩, q⟩) hs
/-- list, tuple or str -/
def rIx (K : PySem.W.Frag) : R2 := fun x y H Q => rIxL K x y H Q ∨ rIxT K x y H Q ∨ rIxS x y H Q
theorem ix_seq : IxR X (rIx X.K) := ix_list.or (ix_tup.or ix_str)

/-! ### xs[i] = v, any sign -/
/-- the list's object behind a store -/
theorem mapSeq_set (its : List Value) (n j : Nat) (u : Value) : Obj.mapSeq (·.setIfInBounds j u) { cls := .type "list", data := .seq its.toArray n } = { cls := .type "list", data := .seq (its.set j u).toArray n } := by
  simp [Obj.mapSeq]
theorem Inv.lst {pins : List (Addr × Obj)} {σ : St} {H : Hp} {s : Shared} {p : Addr} {xs : List V} (I : Inv X pins σ H s) (h : H p = some (.lst xs)) :
    ∃ (its : List Value) (n : Nat), Vals xs its ∧ s.heap.get? p = some { cls := .type "list", data := .seq its.toArray n } ∧ xs.length ≤ sizeLine := by
  obtain ⟨z, its, n, r, e⟩ := I.hok p _ h
  exact ⟨its, n, r, e, z⟩
/-- the list at p is written by an update of its object -/
theorem Inv.lstUpd {pins : List (Addr × Obj)} {σ : St} {H : Hp} {s : Shared} {p : Addr} {xs ys : List V} {its its' : List Value} {n n' : Nat} {f : Obj → Obj} (I : Inv X pins σ H s) (h : H p = some (.lst xs))
    (ho : s.heap.get? p = some { cls := .type "list", data := .seq its.toArray n }) (hf : f { cls := .type "list", data := .seq its.toArray n } = { cls := .type "list", data := .seq its'.toArray n' }) (r : Vals ys its') (hz : ys.length ≤ sizeLine) (t : Nat) :
    Inv X pins σ (upd H p (.lst ys)) { s with heap := s.heap.update p f, toks := t } := by
  have e : (s.heap.update p f).get? p = some { cls := .type "list", data := .seq its'.toArray n' } := by
    rw [Heap.get?_update_self f ho (by rw [hf] <;> rfl), hf]
  refine I.write (x := p) (e := p) (by rw [h]; trivial) (.inl rfl) (fun b u hb q => (Heap.get?_update_other _ _ (Ne.symm hb)).trans q) ⟨_, e⟩ ?_
  exact ⟨hz, its', n', r, e⟩
def rSetL : V → V → V → Hp → (Hp → Prop) → Prop := fun o i v H Q => ∃ p xs k j, o = .ref p ∧ i = .int k ∧ H p = some (.lst xs) ∧ ixN xs.length k = some j ∧ Q (upd H p (.lst (xs.set j v)))
theorem set_list : PSet X rSetL := by
  intro pins s σ H o i v ov iv u Q I ro ri rv h
  obtain ⟨p, xs, k, j, rfl, rfl, hp, hj, q⟩ := h
  cases ro
  obtain ⟨t, rfl⟩ := ri
  obtain ⟨its, n, r, ho, hz⟩ := I.lst hp
  obtain ⟨h1, h2, h3, h4⟩ := ixN_seq hj
  have hl := r.length
  have hn := line63
  have I' : Inv X pins σ (upd H p (.lst (xs.set j v))) { s with heap := s.heap.update p (Obj.mapSeq (·.setIfInBounds j u)) } :=
    I.lstUpd hp ho (mapSeq_set its n j u) (r.set rv j) (by rw [List.length_set]; exact hz) s.toks
  by_cases h0 : 0 ≤ k
  · have hk : k.toNat = j := by
      rw [seqIndex_of h0 h4] at h1
      exact Option.some.inj h1
    exact PySem.W.ki_setAt ho h0 (by omega) (by rw [List.size_toArray, ← hl]; exact h4) (by rw [hk]; exact ⟨_, I', q⟩)
  · have hk : (k + (its.toArray.size : Int)).toNat = j := by
      rw [seqIndex_neg (by omega) h3] at h1
      rw [List.size_toArray, ← hl]
      exact Option.some.inj h1
    exact PySem.W.ki_setBack ho (by omega) (by rw [List.size_toArray, ← hl]; exact h3) (by omega) (by rw [hk]; exact ⟨_, I', q⟩)

/-! ### slices -/
theorem slice_bounds (lo hi : Option Int) (n : Nat) : (sliceBounds lo hi none n).1 = ((HT.sIx n 0 lo : Nat) : Int) ∧ (sliceBounds lo hi none n).2.1 = ((HT.sIx n n hi : Nat) : Int) ∧ (sliceBounds lo hi none n).2.2 = 1 := by
  refine ⟨?_, ?_, rfl⟩
  · cases lo with
    | none => simp [sliceBounds, HT.sIx]
    | some i =>
      simp only [sliceBounds, HT.sIx, Option.getD_none, show (1 : Int) > 0 by decide, if_true]
      by_cases h : i < 0
      · simp only [h, if_true] <;> omega
      · simp only [h, if_false] <;> omega
  · cases hi with
    | none => simp [sliceBounds, HT.sIx]
    | some i =>
      simp only [sliceBounds, HT.sIx, Option.getD_none, show (1 : Int) > 0 by decide, if_true]
      by_cases h : i < 0
      · simp only [h, if_true] <;> omega
      · simp only [h, if_false] <;> omega
theorem slicePick_cut (its : List Value) (lo hi : Option Int) : slicePick its.toArray lo hi none = ((its.drop (HT.sIx its.length 0 lo)).take (HT.sIx its.length its.length hi - HT.sIx its.length 0 lo)).toArray := by
  obtain ⟨h1, h2, h3⟩ := slice_bounds lo hi its.toArray.size
  unfold slicePick
  rw [h1, h2, h3]
  simp only [sliceRange_one, pick_run, List.size_toArray] <;> rfl
/-- xs[lo:hi] of a list: a new list -/
def rSlL (K : PySem.W.Frag) : V → Option Int → Option Int → Hp → VK → Prop := fun x lo hi H Q => ∃ a xs, x = .ref a ∧ SqL K H a xs ∧ ∀ p, H p = none → Q (.ref p) (upd H p (.lst (cutV xs lo hi)))
theorem sl_list : SlR X (rSlL X.K) := by
  intro pins s σ H x v vl vu lo hi sl Q I rx hs pl pu h
  obtain ⟨a, xs, rfl, hx, q⟩ := h
  cases rx
  obtain ⟨its, r, ht, hz⟩ := I.list hx
  have hlen := r.length
  refine ⟨"list", _, slot_list_getitem.lookup, ht.isList.typeIs, ?_⟩
  refine wpAny_getItem_list_slice ht.isList hs pl pu .none (by simp) ?_ (by rw [List.size_toArray] <;> omega)
  rw [slicePick_cut, ← hlen]
  refine ⟨.ref s.heap.objs.size, _, I.laid (t' := s.toks) (o := .lst (cutV xs lo hi)) (fun b ob q => Heap.get?_push_of_some _ q) (Nat.le_refl _) ?_, rfl, q _ (I.hok.fresh (Nat.le_refl _))⟩
  exact ⟨Nat.le_trans (cutV_length xs lo hi) hz, _, 0, (r.drop (HT.sIx xs.length 0 lo)).take (HT.sIx xs.length xs.length hi - HT.sIx xs.length 0 lo), Heap.get?_push_size _ rfl⟩

/-! ### in, not in: flat items -/
def flatV : V → Bool
  | .non => true
  | .bl _ => true
  | .int _ => true
  | .str _ => true
  | _ => false
/-- == of flat values -/
def eqV : V → V → Bool
  | .non, .non => true
  | .bl a, .bl b => a == b
  | .bl a, .int b => (if a then 1 else 0) == b
  | .int a, .bl b => a == (if b then 1 else 0)
  | .int a, .int b => a == b
  | .str a, .str b => a == b
  | _, _ => false
theorem eqAt_V {A : Around} {s : Shared} {y x : V} {u v : Value} (ry : RelV y u) (rx : RelV x v) (fy : flatV y = true) (fx : flatV x = true) : SeqAt.EqAt A s u v (eqV y x) := by
  cases y with
  | non =>
    cases ry
    cases x with
    | non => cases rx; exact SeqAt.EqAt.same _
    | bl b => cases rx; exact SeqAt.EqAt.none_bool b
    | int b => obtain ⟨t, rfl⟩ := rx; exact SeqAt.EqAt.none_int b t
    | str b => obtain ⟨t, rfl⟩ := rx; exact SeqAt.EqAt.none_str b t
    | _ => exact absurd (show false = true from fx) Bool.false_ne_true
  | bl a =>
    cases ry
    cases x with
    | non => cases rx; exact SeqAt.EqAt.bool_none a
    | bl b => cases rx; exact SeqAt.EqAt.bool_bool a b
    | int b => obtain ⟨t, rfl⟩ := rx; exact SeqAt.EqAt.bool_int a b t
    | str b => obtain ⟨t, rfl⟩ := rx; exact SeqAt.EqAt.bool_str a b t
    | _ => exact absurd (show false = true from fx) Bool.false_ne_true
  | int a =>
    obtain ⟨t', rfl⟩ := ry
    cases x with
    | non => cases rx; exact SeqAt.EqAt.int_none a t'
    | bl b => cases rx; exact SeqAt.EqAt.int_bool a t' b
    | int b => obtain ⟨t, rfl⟩ := rx; exact SeqAt.EqAt.int_int a t' b t
    | str b => obtain ⟨t, rfl⟩ := rx; exact SeqAt.EqAt.int_str a t' b t
    | _ => exact absurd (show false = true from fx) Bool.false_ne_true
  | str a =>
    obtain ⟨t', rfl⟩ := ry
    cases x with
    | non => cases rx; exact SeqAt.EqAt.str_none a t'
    | bl b => cases rx; exact SeqAt.EqAt.str_bool a t' b
    | int b => obtain ⟨t, rfl⟩ := rx; exact SeqAt.EqAt.str_int a t' b t
    | str b => obtain ⟨t, rfl⟩ := rx; exact SeqAt.EqAt.str_str a t' b t
    | _ => exact absurd (show false = true from fx) Bool.false_ne_true
  | _ => exact absurd (show false = true from fy) Bool.false_ne_true
/-- the items' answers, read off the values (a value's own answer does not lean on its token) -/
def eqU (x : V) (u : Value) : Bool := match u with
  | .none => eqV .non x
  | .bool b => eqV (.bl b) x
  | .int i _ => eqV (.int i) x
  | .str z _ => eqV (.str z) x
  | _ => false
theorem eqU_of {x y : V} {u : Value} (r : RelV y u) (f : flatV y = true) : eqU x u = eqV y x := by
  cases y with
  | non => cases r; rfl
  | bl b => cases r; rfl
  | int i => obtain ⟨t, rfl⟩ := r; rfl
  | str z => obtain ⟨t, rfl⟩ := r; rfl
  | _ => exact absurd (show false = true from f) Bool.false_ne_true
theorem any_eqU {x : V} : ∀ {xs : List V} {us : List Value}, Vals xs us → xs.all flatV = true → us.any (eqU x) = xs.any fun y => eqV y x
  | _, _, .nil, _ => rfl
  | y :: xs, u :: us, .cons r t, f => by
    rw [List.all_cons, Bool.and_eq_true] at f
    rw [List.any_cons, List.any_cons, eqU_of r f.1, any_eqU t f.2]
theorem mem_eqAt {A : Around} {s : Shared} {x : V} {v : Value} (rx : RelV x v) (fx : flatV x = true) : ∀ {xs : List V} {us : List Value}, Vals xs us → xs.all flatV = true → ∀ u ∈ us, SeqAt.EqAt A s u v (eqU x u)
  | _, _, .nil, _ => fun u hu => by cases hu
  | y :: xs, u :: us, .cons r t, f => fun u' hu => by
    rw [List.all_cons, Bool.and_eq_true] at f
    rcases List.mem_cons.mp hu with rfl | hu
    · rw [eqU_of r f.1]; exact eqAt_V r rx f.1 fx
    · exact mem_eqAt rx fx t f.2 u' hu
def inV (x : V) (xs : List V) : Bool := xs.any fun y => eqV y x
/-- x in a list or tuple of flat items -/
def rIn (K : PySem.W.Frag) (neg : Bool) : R2 := fun x y H Q => ∃ p xs, y = .ref p ∧ (SqL K H p xs ∨ SqT K H p xs) ∧ flatV x = true ∧ xs.all flatV = true ∧ Q (.bl (if neg then !inV x xs else inV x xs)) H
theorem op_in_seq : OpR X (compareOp .In) (rIn X.K false) := by
  intro pins s σ H x y v u Q I rx ry h
  obtain ⟨p, xs, rfl, hq, fx, fs, q⟩ := h
  cases ry
  rcases hq with hq | hq
  · obtain ⟨its, r, pl, hz⟩ := I.list hq
    refine SeqAt.in_listAt (eqU x) pl.isList (fun w hw => mem_eqAt rx fx r fs w (by simpa using hw)) ⟨.bl _, H, I, rfl, ?_⟩
    rw [show its.toArray.any (eqU x) = its.any (eqU x) by simp, any_eqU r fs]
    exact q
  · obtain ⟨its, r, pl, hz⟩ := I.tuple hq
    refine SeqAt.in_tupleAt (eqU x) pl (fun w hw => mem_eqAt rx fx r fs w (by simpa using hw)) ⟨.bl _, H, I, rfl, ?_⟩
    rw [show its.toArray.any (eqU x) = its.any (eqU x) by simp, any_eqU r fs]
    exact q
theorem op_notIn_seq : OpR X (compareOp .NotIn) (rIn X.K true) := by
  intro pins s σ H x y v u Q I rx ry h
  obtain ⟨p, xs, rfl, hq, fx, fs, q⟩ := h
  cases ry
  rcases hq with hq | hq
  · obtain ⟨its, r, pl, hz⟩ := I.list hq
    refine SeqAt.notIn_listAt (eqU x) pl.isList (fun w hw => mem_eqAt rx fx r fs w (by simpa using hw)) ⟨.bl _, H, I, rfl, ?_⟩
    rw [show its.toArray.any (eqU x) = its.any (eqU x) by simp, any_eqU r fs]
    exact q
  · obtain ⟨its, r, pl, hz⟩ := I.tuple hq
    refine SeqAt.notIn_tupleAt (eqU x) pl (fun w hw => mem_eqAt rx fx r fs w (by simpa using hw)) ⟨.bl _, H, I, rfl, ?_⟩
    rw [show its.toArray.any (eqU x) = its.any (eqU x) by simp, any_eqU r fs]
    exact q
theorem op_notIn_str : OpR X (compareOp .NotIn) (fun x y H Q => ∃ i j, x = .str i ∧ y = .str j ∧ Q (.bl (!(!(Builtin.Str.occurrences j i 0 j.length 1).isEmpty))) H) := by
  intro pins s σ H x y v u Q I rx ry h
  obtain ⟨i, j, rfl, rfl, q⟩ := h
  obtain ⟨t, rfl⟩ := rx
  obtain ⟨t', rfl⟩ := ry
  exact notIn_str ⟨.bl _, H, I, rfl, q⟩

/-! ### len, list(x), tuple(x) of any list or tuple that is read -/
theorem call_len_seq : CallR X (.builtin "len") (fun xs H Q => ∃ p ys, xs = [.ref p] ∧ (SqL X.K H p ys ∨ SqT X.K H p ys) ∧ Q (.int ys.length) H) := by
  intro pins s σ H xs us Q I r h
  obtain ⟨p, ys, rfl, hq, q⟩ := h
  obtain ⟨u, rfl, rx⟩ := vals1 r
  cases rx
  have hn := line63
  rcases hq with hq | hq
  · obtain ⟨its, r', pl, hz⟩ := I.list hq
    have hlen := r'.length
    exact Calls.call_len_list pl.isList (by simp only [List.size_toArray] <;> omega) ⟨.int ys.length, H, I.tok _, ⟨s.toks + 1, by rw [List.size_toArray, hlen]⟩, q⟩
  · obtain ⟨its, r', pl, hz⟩ := I.tuple hq
    have hlen := r'.length
    exact len_tuple pl (by simp only [List.size_toArray] <;> omega) ⟨.int ys.length, H, I.tok _, ⟨s.toks + 1, by rw [List.size_toArray, hlen]⟩, q⟩
theorem call_len_str : CallR X (.builtin "len") (fun xs H Q => ∃ z, xs = [.str z] ∧ z.length ≤ sizeLine ∧ Q (.int z.length) H) := by
  intro pins s σ H xs us Q I r h
  obtain ⟨z, rfl, hz, q⟩ := h
  obtain ⟨u, rfl, t, rfl⟩ := vals1 r
  have hn := line63
  exact len_str (by omega) ⟨.int z.length, H, I.tok _, ⟨_, rfl⟩, q⟩
theorem CallR.or {f : Value} {r r' : List V → Hp → VK → Prop} (h : CallR X f r) (h' : CallR X f r') : CallR X f (fun xs H Q => r xs H Q ∨ r' xs H Q) := by
  intro pins s σ H xs us Q I rs q
  rcases q with q | q
  · exact h pins s σ H xs us Q I rs q
  · exact h' pins s σ H xs us Q I rs q
theorem call_list_of : CallR X (.type "list") (fun xs H Q => ∃ p ys, xs = [.ref p] ∧ (SqL X.K H p ys ∨ SqT X.K H p ys) ∧ ∀ l, H l = none → Q (.ref l) (upd H l (.lst ys))) := by
  intro pins s σ H xs us Q I r h
  obtain ⟨p, ys, rfl, hq, q⟩ := h
  obtain ⟨u, rfl, rx⟩ := vals1 r
  cases rx
  have fin : ∀ (its : List Value), Vals ys its → ys.length ≤ sizeLine → ∀ (h' : Heap) (c' : Nat), (∀ b o', s.heap.get? b = some o' → h'.get? b = some o') →
      h'.get? s.heap.objs.size = some { cls := .type "list", dict := none, data := .seq its.toArray c', slots := #[] } → EP X pins σ Q (.ref s.heap.objs.size) { s with heap := h' } := fun its r' hz h' c' kp e =>
    ⟨.ref s.heap.objs.size, _, I.laid (t' := s.toks) kp (Nat.le_refl _) (show ObjOk X.prog X.w _ h' _ (.lst ys) from ⟨hz, its, c', r', e⟩), rfl, q _ (I.hok.fresh (Nat.le_refl _))⟩
  rcases hq with hq | hq
  · obtain ⟨its, r', pl, hz⟩ := I.list hq
    have hlen := r'.length
    obtain ⟨o, ho, hc, n, hd⟩ := pl.isList
    exact call_list_seq p (.inl rfl) ho hc hd (fun h' c' kp e => fin its r' hz h' c' kp e) (by simp only [List.size_toArray] <;> omega)
  · obtain ⟨its, r', pl, hz⟩ := I.tuple hq
    have hlen := r'.length
    obtain ⟨o, ho, hc, n, hd⟩ := pl
    exact call_list_seq p (.inr rfl) ho hc hd (fun h' c' kp e => fin its r' hz h' c' kp e) (by simp only [List.size_toArray] <;> omega)
theorem call_tuple_of : CallR X (.type "tuple") (fun xs H Q => ∃ p ys, xs = [.ref p] ∧ ((SqL X.K H p ys ∧ ∀ l, H l = none → Q (.ref l) (upd H l (.tup ys))) ∨ (SqT X.K H p ys ∧ Q (.ref p) H))) := by
  intro pins s σ H xs us Q I r h
  obtain ⟨p, ys, rfl, h⟩ := h
  obtain ⟨u, rfl, rx⟩ := vals1 r
  cases rx
  rcases h with ⟨hq, q⟩ | ⟨hq, q⟩
  · obtain ⟨its, r', pl, hz⟩ := I.list hq
    have hlen := r'.length
    refine call_tuple_list pl.isList (fun h' kp => ?_) (by simp only [List.size_toArray] <;> omega)
    have I1 : Inv X pins σ H { s with heap := h' } := I.kept (t' := s.toks) kp
    have I2 : Inv X pins σ (upd H h'.objs.size (.tup ys)) { s with heap := h'.push { cls := .type "tuple", data := .seq its.toArray } } :=
      I1.laid (t' := s.toks) (fun b o e => Heap.get?_push_of_some _ e) (Nat.le_refl _) (show ObjOk X.prog X.w _ _ _ (.tup ys) from ⟨hz, its, r', TupX.new _ _⟩)
    exact ⟨.ref h'.objs.size, _, I2, rfl, q _ (I1.hok.fresh (Nat.le_refl _))⟩
  · obtain ⟨its, r', pl, hz⟩ := I.tuple hq
    exact call_tuple_same pl ⟨.ref p, H, I, rfl, q⟩

/-! ### the call of a builtin's method: o.m(..) -/
/-- the value is of that builtin type -/
def tyV (K : PySem.W.Frag) (T : String) (x : V) (H : Hp) : Prop := match x with
  | .str _ => T = "str"
  | .int _ => T = "int"
  | .ref p => (T = "list" ∧ ∃ xs, SqL K H p xs) ∨ (T = "tuple" ∧ ∃ o, K.lookup p = some o ∧ o.cls = .type "tuple" ∧ o.dict = none) ∨
      (T = "dict" ∧ ((∃ kvs, H p = some (.dK kvs)) ∨ ∃ kvs, H p = some (.dT kvs))) ∨ (T = "set" ∧ ∃ S n, H p = some (.set S n))
  | _ => False
theorem tyV_is {pins : List (Addr × Obj)} {σ : St} {H : Hp} {s : Shared} {T : String} {x : V} {v : Value} (I : Inv X pins σ H s) (r : RelV x v) (ty : tyV X.K T x H) :
    s.TypeIs v T ∧ ∀ a, v = .ref a → ∃ ob, s.heap.get? a = some ob ∧ ob.dict = none := by
  cases x with
  | str z =>
    obtain ⟨t, rfl⟩ := r
    cases (show T = "str" from ty)
    exact ⟨typeIs_str s z t, fun _ e => nomatch e⟩
  | int i =>
    obtain ⟨t, rfl⟩ := r
    cases (show T = "int" from ty)
    exact ⟨typeIs_int s i t, fun _ e => nomatch e⟩
  | ref p =>
    cases r
    rcases ty with ⟨rfl, xs, hq⟩ | ⟨rfl, o, hk, hc, hd⟩ | ⟨rfl, hk⟩ | ⟨rfl, S, n, hk⟩
    · obtain ⟨its, _, pl, _⟩ := I.list hq
      refine ⟨pl.isList.typeIs, fun a e => ?_⟩
      cases e
      obtain ⟨o, n, e, c, hd, _⟩ := pl
      exact ⟨o, e, hd⟩
    · refine ⟨⟨o, I.kIn p o hk, hc⟩, fun a e => ?_⟩
      cases e
      exact ⟨o, I.kIn _ o hk, hd⟩
    · have z : ∃ o, s.heap.get? p = some o ∧ o.ExactDict := by
        rcases hk with ⟨kvs, hk⟩ | ⟨kvs, hk⟩
        · obtain ⟨_, _, _, _, o, _, _, e, ex, _⟩ := I.hok p _ hk
          exact ⟨o, e, ex⟩
        · obtain ⟨_, _, _, _, o, _, _, e, ex, _⟩ := I.hok p _ hk
          exact ⟨o, e, ex⟩
      obtain ⟨o, e, ex⟩ := z
      refine ⟨⟨o, e, ex.1⟩, fun a e2 => ?_⟩
      cases e2
      exact ⟨o, e, ex.2.1⟩
    · obtain ⟨o, _, _, _, e, ex, _⟩ := I.hok p _ hk
      refine ⟨⟨o, e, ex.1⟩, fun a e2 => ?_⟩
      cases e2
      exact ⟨o, e, ex.2.1⟩
  | _ => exact False.elim ty
def tBM0 (K : PySem.W.Frag) (T : String) (r : V → List V → Hp → VK → Prop) (to : TE) : TE := fun σ H Q => to σ H fun x H1 => tyV K T x H1 ∧ r x [] H1 Q
def tBM (K : PySem.W.Frag) (T : String) (r : V → List V → Hp → VK → Prop) (to : TE) (t : TA) : TE := fun σ H Q => to σ H fun x H1 => tyV K T x H1 ∧ t σ H1 fun xs H2 => r x xs H2 Q
variable {o e : Expr} {es : List Expr} {to : TE} {t : TA} {name : Str} {apos cpos : Pos} {T id : String} {r : V → List V → Hp → VK → Prop}
theorem pe_bm0 (pa : PlainAttrs T) (slot : Slot T name id) (hty : typeOf (.builtin id) = pure (.type "method_descriptor")) (hm : MtR X id r) (ho : PE X o to)
    (hbase : attributeBase o name X.env (eval o X.env) = eval o X.env := by rfl) (hline : (apos.endLine == cpos.line) = true := by rfl) : PE X (.Call (.Attribute o name apos) [] [] cpos) (tBM0 X.K T r to) := by
  intro pins s σ H Q I h
  refine wpAny_Call_method0_late hbase hline (thn (ho pins s σ H _ I h) fun v s1 ⟨x, H1, I1, r1, ty, q1⟩ => ?_)
  obtain ⟨h1, h2⟩ := tyV_is I1 r1 ty
  exact ⟨T, id, pa, slot, hty, h1, h2, Calls.callWith_builtin rfl (PySem.evalArgs_none (hm pins s1 σ H1 x [] v [] Q I1 r1 .nil q1))⟩
theorem pe_bm (pa : PlainAttrs T) (slot : Slot T name id) (hty : typeOf (.builtin id) = pure (.type "method_descriptor")) (hm : MtR X id r) (ho : PE X o to) (ha : PA X (e :: es) t)
    (hbase : attributeBase o name X.env (eval o X.env) = eval o X.env := by rfl)
    (hfew : ((backTo cpos (starEach (e :: es) X.env)).all (fun x => !x.1) && (backToKw cpos (keywordEach [] X.env)).all (fun x => x.1.isSome)
      && decide ((e :: es).length + ([] : List Keyword).length + (if ([] : List Keyword).isEmpty then 0 else 1) < 30)) = true := by rfl)
    (hline : (apos.endLine == cpos.line) = true := by rfl) (hs : starEach (e :: es) X.env = (false, eval e X.env) :: starEach es X.env := by rfl) (hplain : (backTo cpos (starEach es X.env)).any (·.1) = false := by rfl) :
    PE X (.Call (.Attribute o name apos) (e :: es) [] cpos) (tBM X.K T r to t) := by
  intro pins s σ H Q I h
  refine wpAny_Call_method_late hbase hfew hline rfl (thn (ho pins s σ H _ I h) fun v s1 ⟨x, H1, I1, r1, ty, q1⟩ => ?_)
  obtain ⟨h1, h2⟩ := tyV_is I1 r1 ty
  refine ⟨T, id, pa, slot, hty, h1, h2, ?_⟩
  have hA := ha cpos pins s1 σ H1 _ I1 q1
  rw [hs] at hA ⊢
  refine Calls.callWith_builtin (by show (false || (backTo cpos (starEach es X.env)).any (·.1)) = false; rw [hplain] <;> rfl) (Calls.evalArgs_plain ?_)
  exact thn hA fun us s2 ⟨vs, H2, I2, r2, q2⟩ => hm pins s2 σ H2 x vs v us Q I2 r1 r2 q2
/- xs.append(e), list.index on a module's tuple .. are MtR facts of 06m -/
end
end L2

namespace L2
open PySem PySem.Spec PyProof.Rows

def MtM (X : Cx) (id : String) (r : V → List V → Hp → VK → Prop) : Prop :=
  ∀ (pins : List (Addr × Obj)) (s : Shared) (σ : St) (H : Hp) (x : V) (xs : List V) (v : Value) (us : List Value) (Q : VK), Inv X pins σ H s → RelV x v → Vals xs us → r x xs H Q →
    wpAny (model X.prog X.w) X.A (call (.builtin id) (v :: us)) (EP X pins σ Q) X.xe s

/-! ### lists of values -/
theorem Vals.one : ∀ {x : V} {us : List Value}, Vals [x] us → ∃ u, us = [u] ∧ RelV x u
  | _, _, .cons r .nil => ⟨_, rfl, r⟩
theorem Vals.two : ∀ {x y : V} {us : List Value}, Vals [x, y] us → ∃ u v, us = [u, v] ∧ RelV x u ∧ RelV y v
  | _, _, _, .cons r (.cons q .nil) => ⟨_, _, rfl, r, q⟩
theorem Vals.zero : ∀ {us : List Value}, Vals [] us → us = []
  | _, .nil => rfl
theorem Vals.dropLast {xs : List V} {us : List Value} (h : Vals xs us) : Vals xs.dropLast us.dropLast := by
  induction h with
  | nil => exact .nil
  | cons r t ih =>
    cases t with
    | nil => exact .nil
    | cons q t' => exact .cons r ih
theorem Vals.eraseIdx : ∀ {xs : List V} {us : List Value} (i : Nat), Vals xs us → Vals (xs.eraseIdx i) (us.eraseIdx i)
  | _, _, _, .nil => .nil
  | _, _, 0, .cons _ t => t
  | _, _, i + 1, .cons r t => .cons r (Vals.eraseIdx i t)
theorem Vals.reverse {xs : List V} {us : List Value} (h : Vals xs us) : Vals xs.reverse us.reverse := by
  induction h with
  | nil => exact .nil
  | cons r t ih => rw [List.reverse_cons, List.reverse_cons]; exact Vals.append ih (.cons r .nil)
theorem Vals.rep {xs : List V} {us : List Value} (h : Vals xs us) : ∀ k : Nat, Vals (List.replicate k xs).flatten (List.replicate k us).flatten
  | 0 => .nil
  | k + 1 => by
    rw [List.replicate_succ, List.replicate_succ, List.flatten_cons, List.flatten_cons]
    exact Vals.append h (Vals.rep h k)
theorem erase_last {α : Type} (l : List α) : l.eraseIdx (l.length - 1) = l.dropLast := by
  induction l with
  | nil => rfl
  | cons a r ih =>
    cases r with
    | nil => rfl
    | cons b r =>
      have e : (a :: b :: r).length - 1 = ((b :: r).length - 1) + 1 := by
        have h1 : (a :: b :: r).length = r.length + 2 := rfl
        have h2 : (b :: r).length = r.length + 1 := rfl
        omega
      rw [e, List.eraseIdx_cons_succ, ih]
      all_goals rfl
theorem len_erase {α : Type} : ∀ (l : List α) (i : Nat), (l.eraseIdx i).length ≤ l.length
  | [], _ => Nat.le_refl _
  | _ :: _, 0 => Nat.le_succ _
  | _ :: r, i + 1 => Nat.succ_le_succ (len_erase r i)
theorem foldl_rep (its : List Value) : ∀ (k : Nat) (acc : List Value),
    List.foldl (fun x1 x2 => x1 ++ x2) acc.toArray (List.replicate k its.toArray) = (acc ++ (List.replicate k its).flatten).toArray
  | 0, acc => by simp
  | k + 1, acc => by
    have e : acc.toArray ++ its.toArray = (acc ++ its).toArray := by simp
    have e2 : (acc ++ its) ++ (List.replicate k its).flatten = acc ++ (List.replicate (k + 1) its).flatten := by
      rw [List.replicate_succ, List.flatten_cons, List.append_assoc]
    rw [← e2, ← foldl_rep its k (acc ++ its), ← e, List.replicate_succ, List.foldl_cons]

section
variable {X : Cx} {pins : List (Addr × Obj)} {σ : St} {H : Hp} {s : Shared} {l b : Addr} {xs ys zs : List V}

/-! ### the two steps: a tracked list is rewritten, a new list is laid -/
theorem Inv.lset {its its' : List Value} {n : Nat} {f : Array Value → Array Value} {t' : Nat} (I : Inv X pins σ H s) (hH : H l = some (.lst xs))
    (e : s.heap.get? l = some { cls := .type "list", data := .seq its.toArray n }) (hf : f its.toArray = its'.toArray) (hv : Vals ys its') (hz : ys.length ≤ sizeLine) :
    Inv X pins σ (upd H l (.lst ys)) { s with heap := s.heap.update l (Obj.mapSeq f), toks := t' } := by
  have q := PySem.IsL.update e f
  rw [hf] at q
  refine I.write (x := l) (e := l) (by rw [hH]; exact trivial) (.inl rfl) (fun b' u hb hu => (Heap.get?_update_other s.heap (Obj.mapSeq f) (Ne.symm hb)).trans hu) ⟨_, q⟩ ?_
  exact ⟨hz, its', _, hv, q⟩
theorem Inv.lnew {its : List Value} {t' : Nat} (I : Inv X pins σ H s) (hv : Vals ys its) (hz : ys.length ≤ sizeLine) :
    Inv X pins σ (upd H s.heap.objs.size (.lst ys)) { s with heap := s.heap.push { cls := .type "list", data := .seq its.toArray }, toks := t' } :=
  I.laid (fun _ _ q => Heap.get?_push_of_some _ q) (Nat.le_refl _) ⟨hz, its, 0, hv, Heap.get?_push_size _ rfl⟩
theorem Inv.fresh (I : Inv X pins σ H s) : H s.heap.objs.size = none := I.hok.fresh (Nat.le_refl _)
theorem Inv.lstM (I : Inv X pins σ H s) (hH : H l = some (.lst xs)) : xs.length ≤ sizeLine ∧ ∃ (its : List Value) (n : Nat), Vals xs its ∧ xs.length = its.length ∧ s.heap.get? l = some { cls := .type "list", data := .seq its.toArray n } := by
  obtain ⟨z, its, n, r, e⟩ := I.hok l _ hH
  exact ⟨z, its, n, r, r.length, e⟩

theorem notLongL {n : Nat} (h : n ≤ sizeLine) : Builtin.List.listTooLong n = false := by
  unfold Builtin.List.listTooLong
  exact decide_eq_false (by omega)
end

section
variable {X : Cx}

/-! ### methods -/
def rAppend : V → List V → Hp → VK → Prop := fun x vs H Q => ∃ l xs y, x = .ref l ∧ vs = [y] ∧ H l = some (.lst xs) ∧ xs.length < sizeLine ∧ Q .non (upd H l (.lst (xs ++ [y])))
theorem mt_append : MtM X "list.append" rAppend := by
  intro pins s σ H x vs v us Q I rx rv h
  obtain ⟨l, xs, y, rfl, rfl, hH, hz, q⟩ := h
  cases rx
  obtain ⟨u, rfl, ru⟩ := rv.one
  obtain ⟨z, its, n, r, hl, e⟩ := I.lstM hH
  refine call_meets F.slot_list_append ⟨_, e, rfl⟩ F.entry_list_append (F.args_list_append_2 _ _) (PySem.list_append l its.toArray n u (by rw [List.size_toArray]; omega)) ⟨e, ?_⟩
  refine ⟨.non, _, I.lset (its' := its ++ [u]) hH e (by simp) (r.append (.cons ru .nil)) ?_, rfl, q⟩
  rw [List.length_append, List.length_singleton]
  omega

def rExtend : V → List V → Hp → VK → Prop := fun x vs H Q => ∃ l b xs zs, x = .ref l ∧ vs = [.ref b] ∧ H l = some (.lst xs) ∧ H b = some (.lst zs) ∧ xs.length + zs.length ≤ sizeLine ∧ Q .non (upd H l (.lst (xs ++ zs)))
theorem mt_extend : MtM X "list.extend" rExtend := by
  intro pins s σ H x vs v us Q I rx rv h
  obtain ⟨l, b, xs, zs, rfl, rfl, hH, hB, hz, q⟩ := h
  cases rx
  obtain ⟨u, rfl, ru⟩ := rv.one
  cases ru
  obtain ⟨z, its, n, r, hl, e⟩ := I.lstM hH
  obtain ⟨z2, its2, n2, r2, hl2, e2⟩ := I.lstM hB
  have hsz : its.toArray.size + its2.toArray.size ≤ sizeLine := by rw [List.size_toArray, List.size_toArray]; omega
  have hlong : ¬ (!its.toArray.isEmpty && Builtin.List.listTooLong (its.toArray.size + its2.toArray.size)) = true := by
    rw [notLongL hsz, Bool.and_false]
    exact Bool.false_ne_true
  refine call_meets F.slot_list_extend ⟨_, e, rfl⟩ F.entry_list_extend (F.args_list_extend_2 _ _)
    (AutoSeq1.list_extend_list_list_0 l its.toArray n b its2.toArray n2 hlong (by rw [List.size_toArray]; omega) (by omega)) ⟨e, e2, ?_⟩
  refine ⟨.non, _, I.lset (its' := its ++ its2) hH e (by simp) (r.append r2) ?_, rfl, q⟩
  rw [List.length_append]
  omega

def rPop : V → List V → Hp → VK → Prop := fun x vs H Q => ∃ l xs y, x = .ref l ∧ vs = [] ∧ H l = some (.lst xs) ∧ xs[xs.length - 1]? = some y ∧ Q y (upd H l (.lst xs.dropLast))
theorem mt_pop : MtM X "list.pop" rPop := by
  intro pins s σ H x vs v us Q I rx rv h
  obtain ⟨l, xs, y, rfl, rfl, hH, hy, q⟩ := h
  cases rx
  have hus := rv.zero
  subst hus
  obtain ⟨z, its, n, r, hl, e⟩ := I.lstM hH
  obtain ⟨u, hu, ru⟩ := r.get hy
  have hy' : its.toArray[its.toArray.size - 1]? = some u := by
    show its.toArray[its.length - 1]? = some u
    rw [← Array.getElem?_toList, ← hl]
    exact hu
  refine call_meets F.slot_list_pop ⟨_, e, rfl⟩ F.entry_list_pop (F.args_list_pop_1 _) (MeetsSeq.list_pop_last l its.toArray n u hy' (by rw [List.size_toArray]; omega)) ⟨e, ?_⟩
  refine ⟨y, _, I.lset (its' := its.dropLast) hH e ?_ r.dropLast ?_, ru, q⟩
  · show its.toArray.eraseIdxIfInBounds (its.toArray.size - 1) = its.dropLast.toArray
    rw [List.size_toArray, List.eraseIdxIfInBounds_toArray, erase_last]
  · rw [List.length_dropLast]
    omega

def rPopAt : V → List V → Hp → VK → Prop := fun x vs H Q => ∃ l xs i k y, x = .ref l ∧ vs = [.int i] ∧ H l = some (.lst xs) ∧ -(2 ^ 63) ≤ i ∧ i < 2 ^ 63 ∧ seqIndex? i xs.length = some k ∧ xs[k]? = some y ∧ Q y (upd H l (.lst (xs.eraseIdx k)))
theorem mt_popAt : MtM X "list.pop" rPopAt := by
  intro pins s σ H x vs v us Q I rx rv h
  obtain ⟨l, xs, i, k, y, rfl, rfl, hH, h1, h2, hk, hy, q⟩ := h
  cases rx
  obtain ⟨u, rfl, ru⟩ := rv.one
  obtain ⟨t, rfl⟩ := ru
  obtain ⟨z, its, n, r, hl, e⟩ := I.lstM hH
  obtain ⟨w, hw, rw'⟩ := r.get hy
  refine call_meets F.slot_list_pop ⟨_, e, rfl⟩ F.entry_list_pop (F.args_list_pop_2 _ _)
    (MeetsSeq.list_pop_at l its.toArray n i t k w (fitsIndex_both h1 h2) (by rw [List.size_toArray, ← hl]; exact hk) (by rw [← Array.getElem?_toList]; exact hw) (by rw [List.size_toArray]; omega)) ⟨e, ?_⟩
  refine ⟨y, _, I.lset (its' := its.eraseIdx k) hH e ?_ (r.eraseIdx k) ?_, rw', q⟩
  · show its.toArray.eraseIdxIfInBounds k = (its.eraseIdx k).toArray
    rw [List.eraseIdxIfInBounds_toArray]
  · have := len_erase xs k
    omega

def rReverse : V → List V → Hp → VK → Prop := fun x vs H Q => ∃ l xs, x = .ref l ∧ vs = [] ∧ H l = some (.lst xs) ∧ Q .non (upd H l (.lst xs.reverse))
theorem mt_reverse : MtM X "list.reverse" rReverse := by
  intro pins s σ H x vs v us Q I rx rv h
  obtain ⟨l, xs, rfl, rfl, hH, q⟩ := h
  cases rx
  have hus := rv.zero
  subst hus
  obtain ⟨z, its, n, r, hl, e⟩ := I.lstM hH
  refine call_meets F.slot_list_reverse ⟨_, e, rfl⟩ F.entry_list_reverse (F.args_list_reverse_1 _) (AutoSeq1.list_reverse_list_0 l its.toArray n (by rw [List.size_toArray]; omega)) ⟨e, ?_⟩
  refine ⟨.non, _, I.lset (its' := its.reverse) hH e (by simp) r.reverse ?_, rfl, q⟩
  rw [List.length_reverse]
  omega

def rClear : V → List V → Hp → VK → Prop := fun x vs H Q => ∃ l xs, x = .ref l ∧ vs = [] ∧ H l = some (.lst xs) ∧ Q .non (upd H l (.lst []))
theorem mt_clear : MtM X "list.clear" rClear := by
  intro pins s σ H x vs v us Q I rx rv h
  obtain ⟨l, xs, rfl, rfl, hH, q⟩ := h
  cases rx
  have hus := rv.zero
  subst hus
  obtain ⟨z, its, n, r, hl, e⟩ := I.lstM hH
  refine call_meets F.slot_list_clear ⟨_, e, rfl⟩ F.entry_list_clear (F.args_list_clear_1 _) (AutoSeq1.list_clear_list_0 l its.toArray n (by rw [List.size_toArray]; omega)) ⟨e, ?_⟩
  exact ⟨.non, _, I.lset (its' := []) (ys := []) hH e rfl .nil (Nat.zero_le _), rfl, q⟩

/-! ### list + list, list += list, list * int -/
def rCat : R2 := fun x y H Q => ∃ l b xs zs, x = .ref l ∧ y = .ref b ∧ H l = some (.lst xs) ∧ H b = some (.lst zs) ∧ xs.length + zs.length ≤ sizeLine ∧ ∀ p, H p = none → Q (.ref p) (upd H p (.lst (xs ++ zs)))
theorem op_cat : OpR X (binaryOp .Add) rCat := by
  intro pins s σ H x y v u Q I rx ry h
  obtain ⟨l, b, xs, zs, rfl, rfl, hH, hB, hz, q⟩ := h
  cases rx
  cases ry
  obtain ⟨z, its, n, r, hl, e⟩ := I.lstM hH
  obtain ⟨z2, its2, n2, r2, hl2, e2⟩ := I.lstM hB
  refine PySem.P.add_list e e2 ?_ (by rw [List.size_toArray, List.size_toArray]; omega)
  have ea : its.toArray ++ its2.toArray = (its ++ its2).toArray := by simp
  rw [ea]
  exact ⟨.ref _, _, I.lnew (t' := s.toks) (r.append r2) (by rw [List.length_append]; omega), rfl, q _ I.fresh⟩
/-- a list times an int (a negative one is nothing) -/
def rRep : R2 := fun x y H Q => ∃ l k xs, x = .ref l ∧ y = .int k ∧ H l = some (.lst xs) ∧ -(2 ^ 63) ≤ k ∧ k < 2 ^ 63 ∧ xs.length * k.toNat ≤ sizeLine ∧
  ∀ p, H p = none → Q (.ref p) (upd H p (.lst (List.replicate k.toNat xs).flatten))
theorem len_rep {α : Type} (xs : List α) (k : Nat) : (List.replicate k xs).flatten.length = k * xs.length := by
  induction k with
  | zero => simp
  | succ k ih => rw [List.replicate_succ, List.flatten_cons, List.length_append, ih, Nat.succ_mul, Nat.add_comm]
theorem op_rep : OpR X (binaryOp .Mult) rRep := by
  intro pins s σ H x y v u Q I rx ry h
  obtain ⟨l, k, xs, rfl, rfl, hH, h1, h2, hz, q⟩ := h
  cases rx
  obtain ⟨t, rfl⟩ := ry
  obtain ⟨z, its, n, r, hl, e⟩ := I.lstM hH
  have hlen : its.toArray.size * k.toNat ≤ sizeLine := by rw [List.size_toArray, ← hl]; exact hz
  have hcap : ¬ its.toArray.size * k.toNat > (2 ^ 63 - 1) / 8 := by
    have : (sizeLine : Nat) ≤ (2 ^ 63 - 1) / 8 := by decide
    omega
  have hfit : ¬ (!Builtin.List.listFitsIndex k) = true := by
    rw [fitsIndex_both h1 h2]
    exact Bool.false_ne_true
  have hlong : ¬ Builtin.List.listTooLong (its.toArray.size * k.toNat) = true := by
    rw [notLongL hlen]
    exact Bool.false_ne_true
  have hnew : List.foldl (fun x1 x2 => x1 ++ x2) #[] (List.replicate (if its.toArray.isEmpty = true then 0 else k.toNat) its.toArray) = (List.replicate k.toNat its).flatten.toArray := by
    have f0 : ∀ m : Nat, List.foldl (fun x1 x2 => x1 ++ x2) #[] (List.replicate m its.toArray) = (List.replicate m its).flatten.toArray := fun m => by
      have := foldl_rep its m []
      rw [List.nil_append] at this
      exact this
    rw [f0]
    cases its with
    | nil => simp
    | cons a r' => rw [if_neg (by simp)]
  refine wpAny_binaryOp_repeat_ref (T := "list") (U := "int") (by decide) ⟨_, e, rfl⟩ (fun s' => typeIs_int s' k t) noFill_list_mul F.fills_int_mul F.slot_int_rmul repeat_list F.slot_int_index.lookup
    (call_meets F.slot_int_rmul (typeIs_int s k t) F.entry_int_rmul (F.args_int_rmul_2 _ _) (int___rmul___int_list k t l its.toArray n)
      ⟨e, rfl, ⟨_, e, rfl⟩, call_meets F.slot_list_mul ⟨_, e, rfl⟩ F.entry_list_mul (F.args_list_mul_2 _ _) (AutoListH.list___mul___list_int_3 l its.toArray n k t hfit hcap hlong) ⟨e, ?_⟩⟩)
  rw [hnew]
  exact ⟨.ref _, _, I.lnew (t' := s.toks) (r.rep k.toNat) (by rw [len_rep, Nat.mul_comm]; exact hz), rfl, q _ I.fresh⟩

/-! ### del xs[i] -/
theorem del_list {pins : List (Addr × Obj)} {s : Shared} {σ : St} {H : Hp} {l : Addr} {xs : List V} {i : Int} {t : Tok} {k : Nat} {Q : Unit → Shared → Prop} (I : Inv X pins σ H s) (hH : H l = some (.lst xs))
    (h1 : -(2 ^ 63) ≤ i) (h2 : i < 2 ^ 63) (hk : seqIndex? i xs.length = some k) (h : ∀ s', Inv X pins σ (upd H l (.lst (xs.eraseIdx k))) s' → Q () s') :
    wpAny (model X.prog X.w) X.A (delItem (.ref l) (.int i t)) Q X.xe s := by
  obtain ⟨z, its, n, r, hl, e⟩ := I.lstM hH
  refine PySem.P.delItem_list (k := k) e (fitsIndex_both h1 h2) (by rw [List.size_toArray, ← hl]; exact hk) (h _ ?_) (by rw [List.size_toArray]; omega)
  refine I.lset (its' := its.eraseIdx k) (t' := s.toks) hH e ?_ (r.eraseIdx k) ?_
  · show its.toArray.eraseIdxIfInBounds k = (its.eraseIdx k).toArray
    rw [List.eraseIdxIfInBounds_toArray]
  · have := len_erase xs k
    omega
end

/-! ### xs[a:b] = ys -/
section
variable {prog : Program} {w : World} {A : Around} {E : Value → Shared → Prop} {s : Shared}
theorem splice_eq (its its2 : List Value) (a c : Nat) : its.toArray.extract 0 a ++ its2.toArray ++ its.toArray.extract c its.toArray.size = (its.take a ++ its2 ++ its.drop c).toArray := by
  apply Array.toList_inj.mp
  first
    | (simp
       exact List.take_of_length_le (by simp))
    | simp [List.take_of_length_le]
    | simp
theorem bounds_run {a c n : Nat} (hac : a ≤ c) (hc : c ≤ n) : sliceBounds (some (a : Int)) (some (c : Int)) none n = ((a : Int), (c : Int), 1) := by
  simp only [sliceBounds, Option.getD_none]
  have h1 : ¬ ((a : Int) < 0) := by omega
  have h2 : ¬ ((c : Int) < 0) := by omega
  simp only [h1, h2, if_false, show (1 : Int) > 0 by decide, if_true]
  congr 1
  · omega
  · congr 1; omega
set_option maxRecDepth 100000 in
/-- list.__setitem__ with a slice of step one and another list -/
theorem setItem_slice {l b sl : Addr} {items new : Array Value} {n n2 : Nat} {vl vu : Value} {a c : Nat} {Q : Unit → Shared → Prop}
    (e : s.heap.get? l = some { cls := .type "list", data := .seq items n }) (e2 : s.heap.get? b = some { cls := .type "list", data := .seq new n2 }) (hne : l ≠ b)
    (hs : s.heap.IsSliceOf sl vl vu .none) (pl : IsPart vl (some (a : Int))) (pu : IsPart vu (some (c : Int))) (hac : a ≤ c) (hc : c ≤ items.size)
    (hsz : items.size + new.size ≤ sizeLine) (h : Q () { s with heap := s.heap.update l (Obj.mapSeq fun xs => xs.extract 0 a ++ new ++ xs.extract c xs.size) }) :
    wpAny (model prog w) A (setItem (.ref l) (.ref sl) (.ref b)) Q E s := by
  have hl : s.heap.IsList l items := PySem.IsL.isList e
  have hb : s.heap.IsList b new := PySem.IsL.isList e2
  obtain ⟨os, hos, hcs, hds⟩ := id hs
  have hTs : s.TypeIs (.ref sl) "slice" := ⟨os, hos, hcs⟩
  have hstep : ¬ ((rawPart none == rawInt 0) = true) := Bool.false_ne_true
  have hsame : Builtin.List.listSameRef (.ref l) (.ref b) = false := by
    unfold Builtin.List.listSameRef
    exact beq_eq_false_iff_ne.mpr hne
  have hmax : (max (a : Int) (c : Int)).toNat = c := by omega
  have hz' : ((fun xs : Array Value => xs.extract 0 a ++ new ++ xs.extract c xs.size) items).size ≤ sizeLine + 1 := by
    simp only [Array.size_append, Array.size_extract]
    omega
  unfold setItem
  try with_reducible refine wpAny_holding ?_
  first | refine wpAny_bind (wpAny_pure ?_) | skip
  refine wpAny_bind (wpAny_sequenceKey hl.typeIs (by decide) ?_)
  refine wpAny_bind (wpAny_callSpecial?_slot (name := Str.ofString "__setitem__") hl.typeIs slot_list_setitem
    (wpAny_call_entry slot_list_setitem hl.typeIs entry_list_setitem ?_ (args_list_setitem _ _ _)))
  show wpAny _ _ (Builtin.List.listSubscript? (.ref sl) >>= _) _ _ s
  refine wpAny_bind ?_
  unfold Builtin.List.listSubscript?
  refine wpAny_bind (wpAny_specialOf hTs slice_no_index ?_)
  simp only [Option.isNone_none, if_true]
  refine wpAny_pure ?_
  show wpAny _ _ (typeOf (.ref sl) >>= _) _ _ s
  refine wpAny_bind (wpAny_typeOf hTs ?_)
  first
    | rw [if_neg (by decide)]
    | refine PySem.W.KFB.if_not (by decide) ?_
  rw [listSliceParts_eq]
  refine wpAny_bind (wpAny_bind (wpAny_field hos hds (x := .none) rfl (wpAny_bind (wpAny_listPart .none ?_))))
  rw [if_neg hstep]
  refine wpAny_bind (wpAny_field hos hds (x := vl) rfl (wpAny_bind (wpAny_listPart pl ?_)))
  refine wpAny_bind (wpAny_field hos hds (x := vu) rfl (wpAny_bind (wpAny_listPart pu (wpAny_pure ?_))))
  first
    | simp only [hsame, Bool.false_eq_true, if_false]
    | refine PySem.W.KFB.if_not hsame ?_
    | (dsimp only
       rw [if_neg (by rw [hsame]; exact Bool.false_ne_true)])
  refine wpAny_bind (m := Builtin.List.listAllItems (.ref b) "must assign iterable to extended slice") ?_
  unfold Builtin.List.listAllItems
  refine wpAny_bind (wpAny_typeOf hb.typeIs ?_)
  first
    | refine PySem.W.KFB.if_so (by decide) ?_
    | rw [if_pos (by decide)]
    | simp only [beq_self_eq_true, Bool.true_or, if_true]
  unfold Builtin.List.listItems
  refine wpAny_bind (wpAny_seqItems e2 rfl (wpAny_pure ?_))
  refine wpAny_bind (wpAny_bind (wpAny_seqItems e rfl (wpAny_pure ?_)))
  refine wpAny_bind (wpAny_of_eq ((sliceIndices_raw (some (a : Int)) (some (c : Int)) none items.size (by simp)).trans (congrArg (pure : Int × Int × Int → Sem (Int × Int × Int)) (bounds_run hac hc))) ?_)
  show wpAny _ _ (if ((1 : Int) == 1) = true then _ else _) _ _ s
  rw [if_pos (by decide)]
  refine wpAny_bind (wpAny_rule ?_)
  first
    | simp only [notLongL hsz, Bool.false_eq_true, if_false]
    | refine PySem.W.KFB.if_not (notLongL hsz) ?_
  first | refine wpAny_bind (wpAny_pure ?_) | skip
  show wpAny _ _ (updateSeq l (fun xs => xs.extract 0 ((a : Int)).toNat ++ new ++ xs.extract (max (a : Int) (c : Int)).toNat xs.size) >>= _) _ _ s
  rw [hmax, Int.toNat_natCast]
  refine wpAny_bind (wpAny_updateSeq (hz := Nat.le_trans (Nat.le_add_right _ _) hsz) (_hz' := hz') e rfl ?_)
  refine wpAny_bind (wpAny_letGo ?_)
  first
    | exact wpAny_bind (wpAny_pure (wpAny_pure ⟨.none, rfl, wpAny_pure h⟩))
    | exact wpAny_pure ⟨.none, rfl, wpAny_pure h⟩
end

section
variable {X : Cx}
/-- xs[a:c] = ys of another list, at the value level: sl is the slice object that was just made -/
theorem set_slice {pins : List (Addr × Obj)} {s : Shared} {σ : St} {H : Hp} {l b sl : Addr} {xs ys : List V} {a c : Int} {vl vu : Value} {Q : Unit → Shared → Prop} (I : Inv X pins σ H s)
    (hH : H l = some (.lst xs)) (hB : H b = some (.lst ys)) (hne : l ≠ b) (hs : s.heap.IsSliceOf sl vl vu .none) (ra : RelV (.int a) vl) (rc : RelV (.int c) vu) (h0 : 0 ≤ a) (hac : a ≤ c) (hc : c ≤ xs.length)
    (hz : xs.length + ys.length ≤ sizeLine) (h : ∀ s', Inv X pins σ (upd H l (.lst (xs.take a.toNat ++ ys ++ xs.drop c.toNat))) s' → Q () s') :
    wpAny (model X.prog X.w) X.A (setItem (.ref l) (.ref sl) (.ref b)) Q X.xe s := by
  obtain ⟨ta, rfl⟩ := ra
  obtain ⟨tc, rfl⟩ := rc
  obtain ⟨z, its, n, r, hl, e⟩ := I.lstM hH
  obtain ⟨z2, its2, n2, r2, hl2, e2⟩ := I.lstM hB
  obtain ⟨a', rfl⟩ := Int.eq_ofNat_of_zero_le h0
  obtain ⟨c', rfl⟩ := Int.eq_ofNat_of_zero_le (Int.le_trans h0 hac)
  simp only [Int.toNat_natCast] at h
  refine setItem_slice (a := a') (c := c') e e2 hne hs (.int _ _) (.int _ _) (by omega) (by rw [List.size_toArray]; omega) (by rw [List.size_toArray, List.size_toArray]; omega) (h _ ?_)
  refine I.lset (its' := its.take a' ++ its2 ++ its.drop c') (t' := s.toks) hH e ?_ (Vals.append (Vals.append (r.take _) r2) (r.drop _)) ?_
  · exact splice_eq its its2 a' c'
  · rw [List.length_append, List.length_append, List.length_take, List.length_drop]
    omega
end
end L2

namespace Att
open PySem PySem.W PySem.Calls PyProof.Rows

/-! ### the script -/
theorem ints_of_wellAll {P : Params} {h : Heap} : ∀ (ns : List Int) (vs : List Value), WellAll P h vs (ns.map WData.int) → IntsAre vs ns := by
  intro ns
  induction ns with
  | nil =>
    intro vs w
    rw [List.map_nil] at w
    cases w
    exact .nil
  | cons n ns ih =>
    intro vs w
    rw [List.map_cons] at w
    cases w with
    | cons a b =>
      cases a
      exact .cons _ _ (ih _ b)

theorem script_of {l : OpenLaw} {n : Nat} (hn : l.most = some n) {P : Params} {h : Heap} {args : List WData} {vals : List Value}
    (hpre : l.row.toRowW.claim.pre args = true) (hwl : WellAll P h vals args) :
    ∃ a vs ns, vals = [Value.ref a] ∧ args = [WData.list (ns.map WData.int)] ∧ h.get? a = some { cls := .type "list", data := .seq vs.toArray } ∧ IntsAre vs ns ∧ ns.length ≤ n := by
  have hsh : WShape.hasAll [] args [.list .int] = true := (pre_splitW hpre).1
  have hc : l.pre.holds [] { args := args } = true := (pre_splitW hpre).2
  obtain ⟨d, r, rfl, h1, h2⟩ := hasAllW_cons hsh
  obtain rfl := hasAllW_nil h2
  obtain ⟨xs, rfl, h3⟩ := hasW_list h1
  obtain ⟨ns, rfl⟩ := items_int h3
  have hlen : ns.length ≤ n := by
    unfold OpenLaw.pre at hc
    have h4 : (WTm.not (.lt (.lit (.int (n : Int))) (.len (.arg 0)))).holds [] { args := [.list (ns.map .int)] } = true := by
      have h4 := (holds_andW hc).1
      rw [hn] at h4
      exact h4
    have h5 := condW_of h4 (w_not (w_lt w_lit (w_len_list (w_arg rfl))))
    rw [List.length_map] at h5
    refine Nat.le_of_not_lt fun q => ?_
    have q' : (n : Int) < ((ns.length : Nat) : Int) := by omega
    first
      | (rw [decide_eq_true q'] at h5; exact absurd h5 (by decide))
      | (simp at h5; omega)
  cases hwl with
  | cons w1 w2 =>
    cases w2
    cases w1 with
    | list ho hall => exact ⟨_, _, ns, rfl, rfl, ho, ints_of_wellAll ns _ hall, hlen⟩

theorem post_true (l : OpenLaw) (args : List WData) : l.row.toRowW.claim.post args (.bool true) args = true :=
  postW_of (r := l.row.toRowW) (X := (true == true))
    (show WShape.has [] (.bool true) .bool = true by first | rfl | decide | simp [WShape.has, WShape.arms, WShape.armsAll])
    (show (WTm.eq .res (.lit (.bool true))).value [] { args := args, res := some (.bool true), after := args } = some (.bool (true == true)) from w_eq_bool (w_res rfl) w_lit) rfl

/-! ### the attachment: holds_open's last premise (the goal 'hc' behind k_head) from a wpAny of the law's body -/
theorem attach {l : OpenLaw} {n : Nat} {q : Program} {loose : List Str} {XP : (Str → Option Value) → Heap → Prop} {YP : World → Heap → Prop} {d : DefRec} {x : Str}
    (hn : l.most = some n) (hdf : d.params.defaults = [])
    (hbind : ∀ pm cd doc v : Value, bindArgs (docDef d.name d.params d.body d.scope pm cd doc) ⟨[v], []⟩ = pure [(x, v)])
    (hx : d.scope.names.lookup x = some .local ∨ d.scope.names.lookup x = some .cell)
    (hk : d.scope.kind = .function) (hco : d.scope.isCoroutine = false) (hgen : d.scope.isGenerator = false)
    (body : ∀ (w : World) (s₀ s₁ s : Shared) (mg mb : Str → Option Value) (fa : Addr) (o : Obj) (pm cd doc : Value) (a : Addr) (vs : List Value) (ns : List Int),
      Ground q loose [] XP w s₀ mg mb s₁.heap → YP w s₁.heap →
      s₁.heap.get? fa = some o → o.data = .func (docDef d.name d.params d.body d.scope pm cd doc) → s₁.heap.CodeRec cd d.name → mg d.name = some (.ref fa) →
      s₁.heap.get? a = some { cls := .type "list", data := .seq vs.toArray } → IntsAre vs ns → ns.length ≤ n →
      s.gens = #[] → s.os = s₁.os →
      Fr s₁.heap s₁.heap.objs.size s.heap (bindL (envOfC d.name d.scope s₁.heap.objs.size fa cd).kindOf [(x, .ref a)] fun _ => none) →
      Cl s₁.heap.objs.size (cellsFrom (s₁.heap.objs.size + 1) d.scope.names []) s.heap (bindC (envOfC d.name d.scope s₁.heap.objs.size fa cd).kindOf [(x, .ref a)] fun _ => none) →
      wpAny (model l.prog w) (callerA.deeper (envOfC d.name d.scope s₁.heap.objs.size fa cd)) (execs d.body (envOfC d.name d.scope s₁.heap.objs.size fa cd))
        (fun f s' => f = .ret (.bool true) ∧ OldK s₁.heap s'.heap ∧ s'.os = s₁.os ∧ AllBare s'.gens) (fun _ _ => False) s) :
    WalkO q loose XP YP l.row.toRowW d [] (fun f vs => PySem.call f vs) := by
  intro w s₀ s₁ mg mb G Y fa o pm cd doc dV kV ho hd hcd hD hmg hg args vals as hpre hlay hrd hwl hlo
  obtain rfl : dV = .none := Dflts.none hD hdf
  obtain rfl : kV = .none := Dflts.noKw hD
  obtain ⟨a, vs, ns, rfl, rfl, hobj, hints, hlen⟩ := script_of hn hpre hwl
  refine enter_call ?_
  refine call_cells_ret (o := o) (by rw [depth_caller]; decide) ho (fd_plain hd) G.T.nolimit hcd (hbind pm cd doc (.ref a)) (fun y hy => ?_) (fun h₁ tk F X => ?_) hco hgen hk
  · obtain rfl : y = (x, Value.ref a) := List.mem_singleton.mp hy
    rcases hx with e | e
    · exact .inl e
    · exact .inr ⟨e, cellsFrom_some _ _ _ (.inl e)⟩
  · refine wpAny_mono (body w s₀ s₁ { s₁ with heap := h₁, toks := tk } mg mb fa o pm cd doc a vs ns G Y ho (fd_plain hd) hcd hmg hobj hints hlen hg rfl F X) (fun f s' hq => ?_) (fun _ _ hq => hq)
    obtain ⟨rfl, h2, h3, h4⟩ := hq
    exact ⟨.inl ⟨.bool true, .bool true, [], rfl, fun _ => rfl, .bool true, post_true l _, fun _ => ⟨List.Pairwise.nil, fun _ hm => (nomatch hm)⟩⟩, h2, h3, h4⟩

/-- the same from a codeAny of the CALL (for a layer whose function contracts speak of calls) -/
theorem attach_call {l : OpenLaw} {n : Nat} {q : Program} {loose : List Str} {XP : (Str → Option Value) → Heap → Prop} {YP : World → Heap → Prop} {d : DefRec}
    (hn : l.most = some n) (hdf : d.params.defaults = [])
    (call : ∀ (w : World) (s₀ s₁ : Shared) (mg mb : Str → Option Value) (fa : Addr) (o : Obj) (pm cd doc : Value) (a : Addr) (vs : List Value) (ns : List Int),
      Ground q loose [] XP w s₀ mg mb s₁.heap → YP w s₁.heap →
      s₁.heap.get? fa = some o → o.data = .func (docDef d.name d.params d.body d.scope pm cd doc) → s₁.heap.CodeRec cd d.name → mg d.name = some (.ref fa) →
      s₁.heap.get? a = some { cls := .type "list", data := .seq vs.toArray } → IntsAre vs ns → ns.length ≤ n → s₁.gens = #[] →
      codeAny (model l.prog w) callerA (.call (.ref fa) ⟨[.ref a], []⟩) (fun r s' => r = .ok (.ret (.bool true)) ∧ OldK s₁.heap s'.heap ∧ s'.os = s₁.os ∧ AllBare s'.gens) s₁) :
    WalkO q loose XP YP l.row.toRowW d [] (fun f vs => PySem.call f vs) := by
  intro w s₀ s₁ mg mb G Y fa o pm cd doc dV kV ho hd hcd hD hmg hg args vals as hpre hlay hrd hwl hlo
  obtain rfl : dV = .none := Dflts.none hD hdf
  obtain rfl : kV = .none := Dflts.noKw hD
  obtain ⟨a, vs, ns, rfl, rfl, hobj, hints, hlen⟩ := script_of hn hpre hwl
  refine enter_call (codeAny_mono (call w s₀ s₁ mg mb fa o pm cd doc a vs ns G Y ho (fd_plain hd) hcd hmg hobj hints hlen hg) fun r s' hq => ?_)
  obtain ⟨rfl, h2, h3, h4⟩ := hq
  exact ⟨.inl ⟨.bool true, .bool true, [], rfl, fun _ => rfl, .bool true, post_true l _, fun _ => ⟨List.Pairwise.nil, fun _ hm => (nomatch hm)⟩⟩, h2, h3, h4⟩

/-- the same where the top left finished generators (o_head chose holds_openN): nothing may have changed at all and no generator may be left -/
theorem attachN {l : OpenLaw} {n : Nat} {q : Program} {loose : List Str} {XP : (Str → Option Value) → Heap → Prop} {YP : World → Heap → Prop} {d : DefRec} {x : Str}
    (hn : l.most = some n) (hdf : d.params.defaults = [])
    (hbind : ∀ pm cd doc v : Value, bindArgs (docDef d.name d.params d.body d.scope pm cd doc) ⟨[v], []⟩ = pure [(x, v)])
    (hx : d.scope.names.lookup x = some .local ∨ d.scope.names.lookup x = some .cell)
    (hk : d.scope.kind = .function) (hco : d.scope.isCoroutine = false) (hgen : d.scope.isGenerator = false)
    (body : ∀ (w : World) (s₀ s₁ s : Shared) (mg mb : Str → Option Value) (fa : Addr) (o : Obj) (pm cd doc : Value) (a : Addr) (vs : List Value) (ns : List Int),
      Ground q loose [] XP w s₀ mg mb s₁.heap → YP w s₁.heap →
      s₁.heap.get? fa = some o → o.data = .func (docDef d.name d.params d.body d.scope pm cd doc) → s₁.heap.CodeRec cd d.name → mg d.name = some (.ref fa) →
      s₁.heap.get? a = some { cls := .type "list", data := .seq vs.toArray } → IntsAre vs ns → ns.length ≤ n →
      s.gens = #[] → s.os = s₁.os →
      Fr s₁.heap s₁.heap.objs.size s.heap (bindL (envOfC d.name d.scope s₁.heap.objs.size fa cd).kindOf [(x, .ref a)] fun _ => none) →
      Cl s₁.heap.objs.size (cellsFrom (s₁.heap.objs.size + 1) d.scope.names []) s.heap (bindC (envOfC d.name d.scope s₁.heap.objs.size fa cd).kindOf [(x, .ref a)] fun _ => none) →
      wpAny (model l.prog w) (callerA.deeper (envOfC d.name d.scope s₁.heap.objs.size fa cd)) (execs d.body (envOfC d.name d.scope s₁.heap.objs.size fa cd))
        (fun f s' => f = .ret (.bool true) ∧ (∀ b o, s₁.heap.get? b = some o → s'.heap.get? b = some o) ∧ s'.os = s₁.os ∧ s'.gens = #[]) (fun _ _ => False) s) :
    WalkN q loose XP YP l.row.toRowW d [] (fun f vs => PySem.call f vs) := by
  intro w s₀ s₁ mg mb G Y fa o pm cd doc dV kV ho hd hcd hD hmg hg args vals as hpre hlay hrd hwl hlo
  obtain rfl : dV = .none := Dflts.none hD hdf
  obtain rfl : kV = .none := Dflts.noKw hD
  obtain ⟨a, vs, ns, rfl, rfl, hobj, hints, hlen⟩ := script_of hn hpre hwl
  refine enter_callW ?_
  refine call_cells_ret (o := o) (by rw [depth_caller]; decide) ho (fd_plain hd) G.T.nolimit hcd (hbind pm cd doc (.ref a)) (fun y hy => ?_) (fun h₁ tk F X => ?_) hco hgen hk
  · obtain rfl : y = (x, Value.ref a) := List.mem_singleton.mp hy
    rcases hx with e | e
    · exact .inl e
    · exact .inr ⟨e, cellsFrom_some _ _ _ (.inl e)⟩
  · refine wpAny_mono (body w s₀ s₁ { s₁ with heap := h₁, toks := tk } mg mb fa o pm cd doc a vs ns G Y ho (fd_plain hd) hcd hmg hobj hints hlen hg rfl F X) (fun f s' hq => ?_) (fun _ _ hq => hq)
    obtain ⟨rfl, h2, h3, h4⟩ := hq
    exact ⟨.inl ⟨.bool true, .bool true, [], rfl, fun _ => rfl, .bool true, post_true l _, fun _ => ⟨List.Pairwise.nil, fun _ hm => (nomatch hm)⟩⟩, h2, h3, h4⟩

/-! ### rules over ANY heap (no ledger) from facts about the written part K: the library's own take a ledger (News) for what they write -/
section
variable {prog : Program} {w : World} {A : Around} {E : Value → Shared → Prop} {s : Shared} {K : Frag}

/-- a def of the module, or a method (qual 'C.m'), entered: the frame is the next address; cells behind it -/
theorem call_fn {R : Result → Shared → Prop} {name qual : Str} {params : Arguments} {body : List Stmt} {scope : Scope} {dV kV doc pm cdv ct oc : Value} {an od : Option Addr} {osl : Array (Option Value)} {f : Addr} {args : Args} {binds : List (Str × Value)}
    (X : K.In s.heap) (hlim : s.heap.NoLimit) (ho : K.lookup f = some ⟨oc, od, .func (fnOf name qual params body scope dV kV doc pm an cdv ct), osl⟩) (hcd : codeIn K cdv qual = true) (hroom : A.depth < recursionLimit)
    (hbind : BindsTo s (fnOf name qual params body scope dV kV doc pm an cdv ct) args binds)
    (hkind : (binds.all fun y => scope.names.lookup y.1 == some .local || scope.names.lookup y.1 == some .cell) = true)
    (h : ∀ s₁, InCallC s s.heap.objs.size (bindL (envOfC qual scope s.heap.objs.size f cdv).kindOf binds fun _ => none) (cellsFrom (s.heap.objs.size + 1) scope.names [])
        (bindC (envOfC qual scope s.heap.objs.size f cdv).kindOf binds fun _ => none) s₁ →
      wpAny (model prog w) (A.deeper (envOfC qual scope s.heap.objs.size f cdv)) (execs body (envOfC qual scope s.heap.objs.size f cdv))
        (fun fl s' => R (.ok (.ret (match fl with | .ret v => v | _ => .none))) s')
        (fun e s' => wpAny (model prog w) (A.deeper (envOfC qual scope s.heap.objs.size f cdv)) (leaving (envOfC qual scope s.heap.objs.size f cdv) e) (fun _ s'' => R (.error e) s'') (fun e' s'' => R (.error e') s'') s') s₁)
    (hco : scope.isCoroutine = false) (hgen : scope.isGenerator = false) (hk : scope.kind = .function) : codeAny (model prog w) A (.call (.ref f) args) R s := by
  refine codeAny_call_function hroom (X _ _ ho) rfl hco hgen rfl (codeRec_of X hcd) (hbind _ _ _ _ ?_)
  refine wpAny_newFunctionEnv_cells hk (kindsX hkind _) fun env he s₁ x => ?_
  subst he
  exact ⟨hlim.keeps x.toInCall.keep, codeAny_func (h s₁ x)⟩

/-- C(..): dict at size, instance at size + 1, then __init__ -/
theorem make_obj {R : Result → Shared → Prop} {C fI : Addr} {rest : List Value} {kw : List (Str × Value)}
    (X : K.In s.heap) (hm : makesIn K C = true) (hi : findIn K (.ref C) "__init__" = some (some (.ref fI))) (hf : isFn K (.ref fI) = true)
    (h : codeAny (model prog w) (A.under (.builtin "type.__call__" ⟨.ref C :: rest, kw⟩)) (.call (.ref fI) ⟨.ref (s.heap.objs.size + 1) :: rest, kw⟩) (InitBack (s.heap.objs.size + 1) R)
      { s with heap := (s.heap.push emptyDict).push (instObj C s.heap.objs.size) }) : codeAny (model prog w) A (.call (.ref C) ⟨rest, kw⟩) R s := by
  obtain ⟨hh, g, d, t, os⟩ := s
  exact make_core (makes_of X hm) (looks_findIn X hi) (fun self => bind_fn X self (beq_iff_eq.mp hf)) (.inl rfl) h

/-- x.name where the instance's dict holds the name and the class does not -/
theorem get_field {x C : Addr} {ox : Obj} {es : List DictEntry} {n : Nat} {name : Str} {expr : Bool} {v : Value} {Q : Value → Shared → Prop}
    (X : K.In s.heap) (I : PySem.W.InstAt s.heap x ox C (some (dictOf es n))) (hg : plainGet K C name = true) (hh : hasDictIn K C = true) (ha : findIn K (.ref C) name = some none)
    (hl : getL name es = some (some v)) (hv : handedIn v = true) (h : Q v { s with toks := s.toks + 1 }) : wpAny (model prog w) A (getAttr (.ref x) name expr) Q E s :=
  get_value X I (plainGet_of hg).1 (findObj_own hh ha rfl hl) hv h

/-- x.m(..): the method found in the class -/
theorem get_method {x C f : Addr} {ox : Obj} {es : List DictEntry} {n : Nat} {name : Str} {pl : Sem Bool} {Q : Value × List Value → Shared → Prop}
    (X : K.In s.heap) (I : PySem.W.InstAt s.heap x ox C (some (dictOf es n))) (hg : plainGet K C name = true) (hf : findIn K (.ref C) name = some (some (.ref f))) (ht : isFn K (.ref f) = true)
    (hl : getL name es = some none) (h : Q (.ref f, [.ref x]) s) : wpAny (model prog w) A (getMethod (.ref x) name pl) Q E s :=
  method_fn X I (plainGet_of hg).1 (plainGet_of hg).2 hf (beq_iff_eq.mp ht) (by show (lookIn name (dictOf es n)).map _ = _; rw [lookIn_dict, hl]; rfl) h

/-! the whole heap as the ledger: makes every rule that writes through a ledger a rule over any heap -/
def noObjs (h : Heap) : Heap := { h with objs := #[] }
theorem noObjs_get (h : Heap) (b : Addr) : (noObjs h).get? b = none := by
  cases e : (noObjs h).get? b with
  | none => rfl
  | some o => exact absurd (Heap.lt_size e) (Nat.not_lt_zero _)
def ledger (h : Heap) (L d : Addr) : List (Addr × Obj) := (List.range h.objs.size).filterMap fun a => if a = L ∨ a = d then none else (h.get? a).map fun o => (a, o)
theorem mem_ledger {h : Heap} {L d a : Addr} {o : Obj} : (a, o) ∈ ledger h L d ↔ a ≠ L ∧ a ≠ d ∧ h.get? a = some o := by
  unfold ledger
  rw [List.mem_filterMap]
  constructor
  · rintro ⟨b, _, e⟩
    split at e
    · cases e
    · rename_i hb
      obtain ⟨o', ho, e'⟩ := Option.map_eq_some_iff.mp e
      cases e'
      exact ⟨fun q => hb (.inl q), fun q => hb (.inr q), ho⟩
  · rintro ⟨n1, n2, ho⟩
    refine ⟨a, List.mem_range.mpr (Heap.lt_size ho), ?_⟩
    rw [if_neg (show ¬ (a = L ∨ a = d) from fun q => q.elim n1 n2), ho] <;> rfl
theorem news_ledger {h : Heap} {L d : Addr} {od : Obj} (hne : d ≠ L) (ho : h.get? d = some od) : News (noObjs h) L h ([] ++ (d, od) :: ledger h L d) := by
  rintro ⟨a, o⟩ hp
  rcases List.mem_cons.mp hp with e | hp
  · cases e
    exact ⟨ho, hne, noObjs_get _ _⟩
  · obtain ⟨n1, n2, e⟩ := mem_ledger.mp hp
    exact ⟨e, n1, noObjs_get _ _⟩
theorem fr_all {h : Heap} {L : Addr} {m : Str → Option Value} (n : h.Ns L m) : Fr (noObjs h) L h m :=
  ⟨n, fun b o e => (by rw [noObjs_get] at e; cases e), Nat.zero_le _⟩
/-- Upd of the head entry (for append_K, setItem_K ..) -/
theorem upd_ledger {h : Heap} {L d : Addr} {o o' : Obj} : Upd d o o' ((d, o) :: ledger h L d) ((d, o') :: ledger h L d) :=
  .head fun ⟨_, _⟩ hp => (mem_ledger.mp hp).2.1

/-- x.name = v over any heap: L is any namespace of the heap (the frame's, say): its map stays, its object is not told; all else but the dict stays -/
theorem set_field {x C dx L : Addr} {ox : Obj} {m : Str → Option Value} {es es' : List DictEntry} {n n' : Nat} {name : Str} {v : Value} {Q : Unit → Shared → Prop}
    (X : K.In s.heap) (I : PySem.W.InstAt s.heap x ox C (some (dictOf es n))) (hd : ox.dict = some dx) (hL : s.heap.Ns L m) (hne : dx ≠ L)
    (hs : findIn K (.ref C) "__setattr__" = some (some (.builtin "object.__setattr__"))) (hp : plainOver K C = true) (ht : takerIn K C name = some none) (hh : hasDictIn K C = true) (hl : (getL name es).isSome = true)
    (e : (putL name (PyData.keyHash w.params name) (.str name (s.toks + 1)) v es, putN name es n) = (es', n')) (hz : es'.length ≤ 1000)
    (h : ∀ h' : Heap, h'.Ns L m → h'.get? dx = some (dictOf es' n') → (∀ b o, b ≠ dx → b ≠ L → s.heap.get? b = some o → h'.get? b = some o) → Q () { s with heap := h', toks := s.toks + 2 }) :
    wpAny (model prog w) A (setAttr (.ref x) name v) Q E s := by
  obtain ⟨e1, e2⟩ := Prod.mk.inj e
  have hdx : s.heap.get? dx = some (dictOf es n) := by
    have := I.dict
    rw [hd] at this
    exact this
  refine set_plain X I hs (osa_dict (s := { s with toks := s.toks + 1 }) (h₀ := noObjs s.heap) (L := L) (m := m) (od := dictOf es n) (od' := dictOf es' n') (es := es') (n := n') (pre := []) (post := ledger s.heap L dx)
    (fr_all hL) (news_ledger hne hdx) X I hd hp ht hh hl (fun _ q => nomatch q) (fun ⟨_, _⟩ q => (mem_ledger.mp q).2.1) (by rw [putName_dict, e1, e2]) rfl hz fun h' F' N' => ?_)
  exact h h' F'.ns (N'.get (List.Mem.head _)) fun b o n1 n2 ho => N'.get (List.Mem.tail _ (mem_ledger.mpr ⟨n2, n1, ho⟩))
end
end Att

namespace L2
open PySem PySem.Spec PyProof.Rows

theorem vals_ints : ∀ {vs : List Value} {ns : List Int}, IntsAre vs ns → Vals (ns.map V.int) vs
  | _, _, .nil => .nil
  | _, _, .cons n t h => .cons ⟨t, rfl⟩ (vals_ints h)

/-- nothing is tracked but the script, known to the object (or it is an object of the module) -/
def Only (H : Hp) : Prop := ∀ b, H b = none ∨ ∃ o xs, H b = some (.frz o (.lst xs))

/-- THE HEAD: the law's promise, at the heap behind the top. F, the promise of the law's def, may use that base is part of the heap (so K.In base, base.Ns mainGlobals mg stand in Mod) -/
theorem law_call {P : Program} {w : World} {K : PySem.W.Frag} {mg mb : Str → Option Value} {CX : CXT} {k : Nat} {fa a : Addr} {fd : FuncData} {x : Str} {sp : Sp} {s₁ : Shared} {vs : List Value} {ns : List Int}
    (KX : K.In s₁.heap) (hns : s₁.heap.Ns mainGlobals mg) (hb : s₁.heap.Ns builtinsNs mb) (hbb : ∀ x : Str, x ≠ "__name__" → mb x = bootBuiltins x) (hlim : s₁.heap.NoLimit) (hg : s₁.gens = #[])
    (ha : s₁.heap.get? a = some { cls := .type "list", data := .seq vs.toArray }) (hi : IntsAre vs ns) (hl : ns.length ≤ sizeLine) (hr : Room k callerA)
    (F : ∀ base : Heap, K.In base → base.Ns mainGlobals mg → FnOk P w K mg base CX k fa fd [x] sp) (hbind : ∀ (s : Shared) (u : Value), BindsTo s fd ⟨[u], []⟩ [(x, u)])
    (hsp : ∀ H : Hp, Only H → SqL K H a (ns.map V.int) → sp [.ref a] H (fun v _ => v = .bl true) fun _ _ _ => False)
    (hCX : ∀ H e s', CX [] H s₁ (fun _ _ _ => False) e s' → False) :
    codeAny (model P w) callerA (.call (.ref fa) ⟨[.ref a], []⟩) (fun r s' => r = .ok (.ret (.bool true)) ∧ OldK s₁.heap s'.heap ∧ s'.os = s₁.os ∧ AllBare s'.gens) s₁ := by
  have rv := vals_ints hi
  have lenV := hi.length
  -- from an abstract heap in which nothing but the script may be tracked
  have core : ∀ H : Hp, Only H → SqL K H a (ns.map V.int) → HOk P w H s₁.heap → (∀ b, H b ≠ none → b = a) → (H a ≠ none → K.lookup a = none) →
      codeAny (model P w) callerA (.call (.ref fa) ⟨[.ref a], []⟩) (fun r s' => r = .ok (.ret (.bool true)) ∧ OldK s₁.heap s'.heap ∧ s'.os = s₁.os ∧ AllBare s'.gens) s₁ := by
    intro H hO hS hok hA hK
    have base_of : ∀ {b : Addr} {o : Obj}, s₁.heap.get? b = some o → H b = none → (hidT s₁.heap H).get? b = some o := fun e n => hidT_get e n
    have noA : ∀ {b : Addr} {o : Obj} {es : Array DictEntry} {ep : Nat}, s₁.heap.get? b = some o → o.data = .dict es ep → H b = none := fun {b o es ep} e d => by
      cases q : H b with
      | none => rfl
      | some u =>
        have e' : b = a := hA b (by rw [q]; simp)
        subst e'
        rw [ha] at e; cases e
        have d' : Data.seq vs.toArray _ = Data.dict es ep := d
        cases d'
    have nsK : ∀ {b : Addr} {m : Str → Option Value}, s₁.heap.Ns b m → (hidT s₁.heap H).Ns b m := fun {b m} ⟨o, es, ep, e, d, r⟩ => ⟨o, es, ep, base_of e (noA e d), d, r⟩
    have hKb : K.In (hidT s₁.heap H) := fun b o e => base_of (KX b o e) (by
      cases q : H b with
      | none => rfl
      | some u =>
        have e' : b = a := hA b (by rw [q]; simp)
        subst e'
        rw [hK (by rw [q]; simp)] at e; cases e)
    have hM : Mod K mg (hidT s₁.heap H) := ⟨hKb, nsK hns, ⟨mb, nsK hb, hbb⟩, let ⟨mc, h1, h2⟩ := hlim; ⟨mc, nsK h1, h2⟩⟩
    have e0 : Env0 P w K mg (hidT s₁.heap H) callerA [] s₁ H := ⟨rfl, hM, fun b o e => of_hidT e, Nat.le_of_eq (hidT_size _ _), trivial, fun b hb => absurd (show b ∈ ([] : List Addr) from hb) (by simp), hok, .of_eq hg⟩
    refine codeAny_mono ((F _ hKb (nsK hns)).run callerA [] s₁ H ⟨[.ref a], []⟩ [.ref a] [.ref a] _ _ hr e0 (hbind s₁ (.ref a)) (.cons rfl .nil) (hsp H hO hS)) fun r s' h => ?_
    cases r with
    | error e => exact (hCX H e s' h).elim
    | ok fl =>
      cases fl with
      | next => exact False.elim h
      | brk => exact False.elim h
      | cont => exact False.elim h
      | ret u =>
        obtain ⟨v, H', os, bare, un, hok', r', q⟩ := h
        have q' : v = .bl true := q
        subst q'
        obtain rfl : u = Value.bool true := r'
        refine ⟨rfl, OldK.of_keep fun b o e => ?_, os, bare⟩
        cases q : H b with
        | none => exact un.keep b o e q (by intro z; exact absurd (show b ∈ ([] : List Addr) from z) (by simp)) (by simp)
        | some u =>
          rcases hO b with z | ⟨ob, xs, z⟩
          · rw [q] at z; cases z
          · have z2 := un.frzs b ob _ z
            obtain ⟨e1, _⟩ := hok b _ z
            obtain ⟨e2, _⟩ := hok' b _ z2
            rw [e] at e1; cases e1
            exact e2
  cases hk : K.lookup a with
  | some o =>
    -- the script is one of the module's own objects
    have e := KX a o hk
    rw [ha] at e
    cases e
    refine core (fun _ => none) (fun _ => .inl rfl) (.inr ⟨_, vs.toArray, _, hk, rfl, rfl, rfl, by rw [List.size_toArray, lenV]; exact hl, by simpa using rv⟩) (fun b u z => by have z' : (none : Option HO) = some u := z; cases z') (fun b z => absurd rfl z) fun z => absurd rfl z
  | none =>
    refine core (fun b => if b = a then some (.frz { cls := .type "list", data := .seq vs.toArray } (.lst (ns.map V.int))) else none) (fun b => ?_) (.inl (.inr ⟨{ cls := .type "list", data := .seq vs.toArray }, if_pos rfl⟩)) (fun b u z => ?_) (fun b z => ?_) fun _ => hk
    · by_cases hb : b = a
      · exact .inr ⟨_, _, if_pos hb⟩
      · exact .inl (if_neg hb)
    · by_cases hb : b = a
      · have z' := (if_pos hb).symm.trans z
        cases z'
        subst hb
        exact ⟨ha, by rw [List.length_map]; exact hl, vs, _, rv, ha⟩
      · have z' := (if_neg hb).symm.trans z
        cases z'
    · by_cases hb : b = a
      · exact hb
      · exact absurd (if_neg hb) z
end L2

namespace L2
open PySem PySem.Spec PyProof.Rows

abbrev KOf {K : PySem.W.Frag} {h : Heap} (_ : K.In h) : PySem.W.Frag := K

/-- the goal that k_head leaves (case hc), from the law's promise. F gives the function object fd (K's own) once, then the promise over every base -/
theorem walk_of {l : PySem.W.OpenLaw} {n k : Nat} {q : Program} {loose : List Str} {XP : (Str → Option Value) → Heap → Prop} {YP : World → Heap → Prop} {d : DefRec} {K : Params → PySem.W.Frag} {CX : World → CXT} {sp : World → Sp} {x : Str}
    (hn : l.most = some n) (hn2 : n ≤ sizeLine) (hdf : d.params.defaults = []) (hr : Room k callerA)
    (hY : ∀ (w : World) (h : Heap), YP w h → (K w.params).In h)
    (F : ∀ (w : World) (mg : Str → Option Value) (fa : Addr) (h : Heap), (K w.params).In h → h.Ns mainGlobals mg → mg d.name = some (.ref fa) →
      ∃ fd : FuncData, (∀ (s : Shared) (u : Value), BindsTo s fd ⟨[u], []⟩ [(x, u)]) ∧
        ∀ base : Heap, (K w.params).In base → base.Ns mainGlobals mg → FnOk l.prog w (K w.params) mg base (CX w) k fa fd [x] (sp w))
    (hsp : ∀ (w : World) (H : Hp) (a : Addr) (ns : List Int), ns.length ≤ n → Only H → SqL (K w.params) H a (ns.map V.int) → sp w [.ref a] H (fun v _ => v = .bl true) fun _ _ _ => False)
    (hCX : ∀ (w : World) (H : Hp) (s : Shared) (e : Value) (s' : Shared), CX w [] H s (fun _ _ _ => False) e s' → False) :
    PySem.W.WalkO q loose XP YP l.row.toRowW d [] (fun f vs => PySem.call f vs) := by
  refine Att.attach_call hn hdf fun w s₀ s₁ mg mb fa o pm cd doc a vs ns G Y ho hd hcd hmg hobj hints hlen hg => ?_
  have KX := hY w _ Y
  obtain ⟨fd, hb, hF⟩ := F w mg fa _ KX G.T.g hmg
  exact law_call KX G.T.g G.T.b G.T.builtins G.T.nolimit hg hobj hints (Nat.le_trans hlen hn2) hr hF hb (fun H hO hS => hsp w H a ns hlen hO hS) fun H e s' => hCX w H s₁ e s'
/-- the same where the promise hangs on the written part alone: (sp := My.sp_law), no hole under a binder -/
theorem walk_ofK {l : PySem.W.OpenLaw} {n k : Nat} {q : Program} {loose : List Str} {XP : (Str → Option Value) → Heap → Prop} {YP : World → Heap → Prop} {d : DefRec} {K : Params → PySem.W.Frag} {CX : CXT} {sp : PySem.W.Frag → Sp} {x : Str}
    (hn : l.most = some n) (hn2 : n ≤ sizeLine) (hdf : d.params.defaults = []) (hr : Room k callerA)
    (hY : ∀ (w : World) (h : Heap), YP w h → (K w.params).In h)
    (F : ∀ (w : World) (mg : Str → Option Value) (fa : Addr) (h : Heap), (K w.params).In h → h.Ns mainGlobals mg → mg d.name = some (.ref fa) →
      ∃ fd : FuncData, (∀ (s : Shared) (u : Value), BindsTo s fd ⟨[u], []⟩ [(x, u)]) ∧
        ∀ base : Heap, (K w.params).In base → base.Ns mainGlobals mg → FnOk l.prog w (K w.params) mg base CX k fa fd [x] (sp (K w.params)))
    (hsp : ∀ (K : PySem.W.Frag) (H : Hp) (a : Addr) (ns : List Int), ns.length ≤ n → Only H → SqL K H a (ns.map V.int) → sp K [.ref a] H (fun v _ => v = .bl true) fun _ _ _ => False)
    (hCX : ∀ (H : Hp) (s : Shared) (e : Value) (s' : Shared), CX [] H s (fun _ _ _ => False) e s' → False) :
    PySem.W.WalkO q loose XP YP l.row.toRowW d [] (fun f vs => PySem.call f vs) :=
  walk_of (K := K) (CX := fun _ => CX) (sp := fun w => sp (K w.params)) hn hn2 hdf hr hY F (fun w H a ns h1 h2 h3 => hsp (K w.params) H a ns h1 h2 h3) fun _ H s e s' => hCX H s e s'
end L2

/- THE LAST THEOREM (shape; LID, My.* are yours):
   My.Adr: a structure of the addresses that your layer names (classes, functions); My.Txt K t: a structure (Prop) of the equations over K;
   My.txt_mk : {K} {implicit addresses ..} (e1 : nsIn K mainGlobals "law" = some (some (.ref f))) (e2 : K.lookup f = some ⟨oc, od, .func (fnOf "law" "law" params body scope dV kV doc pm an cdv ct), sl⟩) (e3 : codeIn K cdv "law" = true) .. : ∃ t, My.Txt K t

set_option maxRecDepth 100000 in
set_option maxHeartbeats 0 in
theorem PySem.Challenge.cw_LID_holds : PySem.Challenge.rw_LID.Holds := by
  w_on; o_law; k_head; (case hw => w_witness2)
  k_fill
  refine L2.walk_of (l := PySem.Challenge.rw_LID) (n := 63) (k := 40) (x := "script") (CX := fun w => ..) (sp := fun _ => My.sp_law) rfl (by decide) rfl ⟨rfl, by decide, by decide⟩ (fun w h Y => PySem.W.kIn_of Y) ?F ?S ?C
  case F =>
    intro w mg fa h KX G hmg
    have T : ∃ t, My.Txt (L2.KOf KX) t := by
      dsimp only [L2.KOf]                          -- K must stand as «<heap const> w.params» for k_is
      refine' My.txt_mk ?e1 ?e2 ?e3 ..
      (case e1 => PySem.W.k_is)                    -- in the order: a name -> its address -> its object -> its parts
      (case e2 => PySem.W.k_is)
      ..
    obtain ⟨t, T⟩ := T
    have e0 := hmg.symm.trans (PySem.W.mg_of KX G T.law)
    cases e0                                       -- fa is the law's own address
    exact ⟨_, fun s u => .of_eq rfl, fun base kb nb => My.law_fn T kb nb⟩     -- if «.of_eq rfl» comes too early: refine' ⟨_, ?b, fun base kb nb => My.law_fn T kb nb⟩; exact fun s u => .of_eq rfl
  case S => exact fun w H a ns hl hO hS => ..
  case C => exact ..
(the tactic k_is has no namespace: write k_is) -/

/-! SHORT WORDS over the layer: a def of the text, its body, what a loop and a test want. -/
namespace L2
open PySem PySem.Spec PyProof.Rows

/-! ### the text by places -/
/-- the j-th statement of a class's body -/
def inClass (s : Stmt) (j : Nat) : Stmt := match s with
  | .ClassDef _ _ _ body _ _ _ _ _ _ _ => body.getD j (.Pass ⟨0, 0, 0, 0⟩)
  | _ => .Pass ⟨0, 0, 0, 0⟩
def defArgs (s : Stmt) : Arguments := match s with
  | .FunctionDef _ a _ _ _ _ _ _ _ _ => a
  | _ => { posonlyargs := [], args := [], vararg := none, kwonlyargs := [], kw_defaults := [], kwarg := none, defaults := [] }
def defBody (s : Stmt) : List Stmt := match s with
  | .FunctionDef _ _ b _ _ _ _ _ _ _ => b
  | _ => []
def defScope (s : Stmt) : Scope := match s with
  | .FunctionDef _ _ _ _ _ _ sc _ _ _ => sc
  | _ => { kind := .function, names := [], isGenerator := false, isCoroutine := false }

/-! ### no exception leaves a def -/
abbrev CX0 : CXT := fun _ _ _ _ _ _ => False
abbrev E0 : XK := fun _ _ _ => False
theorem pass0 {X : Cx} : Passes CX0 X E0 := fun _ _ _ _ _ _ _ h => h.elim

/-! ### a def (or method) of the text as it stands behind the top -/
structure Fun (K : PySem.W.Frag) (x qual : Str) (st : Stmt) (f : Addr) (fd : FuncData) : Prop where
  ex : ∃ (oc : Value) (od : Option Addr) (kV doc pm : Value) (an : Option Addr) (cdv ct : Value) (osl : Array (Option Value)),
    fd = PySem.W.fnOf x qual (defArgs st) (defBody st) (defScope st) .none kV doc pm an cdv ct ∧ K.lookup f = some ⟨oc, od, .func fd, osl⟩ ∧ PySem.W.codeIn K cdv qual = true
  kp : PySem.W.keepIn K (.ref f) = true
section
variable {P : Program} {w : World} {K : PySem.W.Frag} {mg : Str → Option Value} {base : Heap}
/-- THE RULE for a def: its body as a term of rules, and the reading of that term -/
theorem Fun.ok {x qual : Str} {st : Stmt} {f : Addr} {fd : FuncData} {N ps : List Str} {k : Nat} {sp : Sp} (F : Fun K x qual st f fd) (S : FnScope N ps (defScope st)) (len : ∀ vs H Q E, sp vs H Q E → vs.length = ps.length)
    (hbody : ∀ (cdv : Value) (A : Around) (outer : List Env) (s : Shared) (H : Hp) (vs : List V) (Q : VK) (E : XK), Room k (A.deeper (envOfC qual (defScope st) s.heap.objs.size f cdv)) → sp vs H Q E →
      ∃ t, PSs (cxOf CX0 P w K mg base N qual (defScope st) f cdv A outer s H E).nox (defBody st) t ∧ t { nx := fun _ H' => Q .non H', rt := Q } (start N vs) H) : FnOk P w K mg base CX0 (k + 1) f fd ps sp := by
  obtain ⟨oc, od, kV, doc, pm, an, cdv, ct, osl, rfl, lk, hcd⟩ := F.ex
  refine fn_of lk hcd S len fun A outer s H vs Q E hr hsp => ?_
  obtain ⟨t, h, q⟩ := hbody cdv A outer s H vs Q E hr hsp
  exact ⟨t, h.nox, q⟩
/-- how its arguments bind (no defaults): h is «fun _ _ _ _ _ _ us hl => match us, hl with | [_, _], _ => rfl», one _ a parameter -/
theorem Fun.binds {x qual : Str} {st : Stmt} {f : Addr} {fd : FuncData} {ps : List Str} (F : Fun K x qual st f fd)
    (h : ∀ (kV doc pm : Value) (an : Option Addr) (cdv ct : Value) (us : List Value), us.length = ps.length → bindArgs (PySem.W.fnOf x qual (defArgs st) (defBody st) (defScope st) .none kV doc pm an cdv ct) ⟨us, []⟩ = pure (ps.zip us)) : Binds K fd ps [] := by
  obtain ⟨oc, od, kV, doc, pm, an, cdv, ct, osl, rfl, lk, hcd⟩ := F.ex
  exact .all (h kV doc pm an cdv ct)
theorem fun_mk {x qual : Str} {st : Stmt} {f : Addr} {oc : Value} {od an : Option Addr} {osl : Array (Option Value)} {kV doc pm cdv ct : Value} (l : K.lookup f = some ⟨oc, od, .func (PySem.W.fnOf x qual (defArgs st) (defBody st) (defScope st) .none kV doc pm an cdv ct), osl⟩)
    (c : PySem.W.codeIn K cdv qual = true) (k : PySem.W.keepIn K (.ref f) = true) : Fun K x qual st f (PySem.W.fnOf x qual (defArgs st) (defBody st) (defScope st) .none kV doc pm an cdv ct) := ⟨⟨oc, od, kV, doc, pm, an, cdv, ct, osl, rfl, l, c⟩, k⟩
end
theorem hu_of {A : Around} {k : Nat} (hr : Room k A) : A.units + 1 < cLine := Nat.lt_of_le_of_lt (Nat.add_le_add_left (by decide : 1 ≤ 64) _) hr.units
theorem small1000 {n : Nat} (h : n ≤ 1000) : n < sizeLine := Nat.lt_of_le_of_lt h (by decide)

/-! ### expressions in short: the name that stands in the i-th slot -/
section
variable {X : Cx}
theorem pv (i : Nat) {x : Str} {pos : Pos} (hN : X.N[i]? = some x := by rfl) (hv : Vis X.env.scope x := by first | exact Or.inl rfl | exact Or.inr (Or.inl rfl) | exact Or.inr (Or.inr rfl)) (hd : (x == ("__debug__" : Str)) = false := by decide)
    (hcd : (x == ("__classdict__" : Str)) = false := by decide) : PE X (.Name x pos) (tVar i) := pe_var hN hv hd hcd
end

/-! ### tests -/
theorem iteF {A B : Prop} (h : B) : if false = true then A else B := by
  rw [if_neg Bool.false_ne_true]
  exact h
theorem iteT {A B : Prop} (h : A) : if true = true then A else B := by
  rw [if_pos rfl]
  exact h
theorem ite2 {c A B : Prop} [Decidable c] (h1 : c → A) (h2 : ¬ c → B) : if c then A else B := by
  by_cases h : c
  · rw [if_pos h]
    exact h1 h
  · rw [if_neg h]
    exact h2 h
theorem iteNS {c A B : Prop} [Decidable c] (hc : c) (h : B) : if (!decide c) = true then A else B := by
  rw [decide_eq_true hc]
  exact iteF h

/-! ### heaps -/
/-- all that was tracked is as it was -/
def Same (H H' : Hp) : Prop := ∀ b o, H b = some o → H' b = some o
theorem Same.refl (H : Hp) : Same H H := fun _ _ h => h
theorem Same.trans {H H1 H2 : Hp} (a : Same H H1) (b : Same H1 H2) : Same H H2 := fun c o h => b c o (a c o h)
theorem Same.free {H H' : Hp} (e : Same H H') {l : Addr} (h : H' l = Option.none) : H l = Option.none := by
  cases q : H l with
  | none => rfl
  | some o =>
    rw [e l o q] at h
    cases h
theorem Same.seq {K : PySem.W.Frag} {H H' : Hp} {a : Addr} {xs : List V} (e : Same H H') (h : SqL K H a xs) : SqL K H' a xs := by
  rcases h with (h | ⟨o, h⟩) | h
  · exact .inl (.inl (e _ _ h))
  · exact .inl (.inr ⟨o, e _ _ h⟩)
  · exact .inr h

end L2
section
set_option maxHeartbeats 4000001
namespace L2
open PySem PySem.Spec PyProof.Rows

/-! ### list comprehensions: the block runs in a context of its own -/
/-- the cells of the names that the block takes from around -/
def clOf (cells : List (Str × Addr)) : List (Str × NameKind) → List (Str × Addr) → List (Str × Addr)
  | [], cs => cs
  | (n, k) :: r, cs => if k == .free then clOf cells r ((n, (cells.lookup n).getD 0) :: cs) else clOf cells r cs
theorem clOf_run {env : Env} : ∀ (names : List (Str × NameKind)) (cs : List (Str × Addr)), (∀ y ∈ names, y.2 = .free → ∃ c, env.cells.lookup y.1 = some c) →
    (forIn names cs fun x r => match x with | (name, kind) => if (kind == NameKind.free) = true then (do let a ← cellOf env name; pure (ForInStep.yield ((name, a) :: r))) else pure (ForInStep.yield r) : Sem (List (Str × Addr))) = pure (clOf env.cells names cs)
  | [], cs, _ => rfl
  | (n, k) :: r, cs, h => by
    rw [List.forIn_cons]
    by_cases e : (k == NameKind.free) = true
    · obtain ⟨c, hc⟩ := h (n, k) List.mem_cons_self (by simpa using e)
      have hcell : cellOf env n = pure c := by
        have hc' : env.cells.lookup n = some c := hc
        unfold cellOf; rw [hc']
      simp only [e, if_true, hcell, pure_bind]
      rw [clOf_run r _ fun y hy => h y (List.mem_cons_of_mem _ hy)]
      have hc' : env.cells.lookup n = some c := hc
      show _ = pure (if (k == NameKind.free) = true then _ else _)
      rw [if_pos e, hc']
      rfl
    · have ef : (k == NameKind.free) = false := by simpa using e
      simp only [ef, Bool.false_eq_true, if_false, pure_bind]
      rw [clOf_run r _ fun y hy => h y (List.mem_cons_of_mem _ hy)]
      show _ = pure (if (k == NameKind.free) = true then _ else _)
      rw [if_neg e]
theorem closure_eq {scope : Scope} {env : Env} (h : ∀ y ∈ scope.names, y.2 = .free → ∃ c, env.cells.lookup y.1 = some c) : closureFor scope env = pure (clOf env.cells scope.names []) := by
  unfold closureFor
  show (forIn scope.names [] _ >>= fun r => pure r) = _
  rw [bind_pure]
  exact clOf_run _ _ h
theorem clOf_sub {cells : List (Str × Addr)} : ∀ (names : List (Str × NameKind)) (cs : List (Str × Addr)) (x : Str) (c : Addr), (∀ y ∈ names, y.2 = .free → ∃ c, cells.lookup y.1 = some c) →
    (∀ x c, cs.lookup x = some c → cells.lookup x = some c) → (clOf cells names cs).lookup x = some c → cells.lookup x = some c
  | [], cs, x, c, _, hs, e => hs x c e
  | (n, k) :: r, cs, x, c, h, hs, e => by
    unfold clOf at e
    by_cases q : (k == NameKind.free) = true
    · rw [if_pos q] at e
      obtain ⟨c0, hc0⟩ := h (n, k) List.mem_cons_self (by simpa using q)
      refine clOf_sub r _ x c (fun y hy => h y (List.mem_cons_of_mem _ hy)) (fun x' c' e' => ?_) e
      rw [List.lookup_cons] at e'
      cases hx : x' == n with
      | true =>
        rw [hx] at e'
        have hx' : x' = n := by simpa using hx
        subst hx'
        have hc0' : cells.lookup x' = some c0 := hc0
        rw [hc0'] at e' ⊢
        exact e'
      | false =>
        rw [hx] at e'
        exact hs x' c' e'
    · rw [if_neg q] at e
      exact clOf_sub r _ x c (fun y hy => h y (List.mem_cons_of_mem _ hy)) hs e
theorem clOf_keep {cells : List (Str × Addr)} : ∀ (names : List (Str × NameKind)) (cs : List (Str × Addr)) (x : Str), (∃ c, cs.lookup x = some c) → ∃ c, (clOf cells names cs).lookup x = some c
  | [], cs, x, e => e
  | (n, k) :: r, cs, x, e => by
    unfold clOf
    by_cases q : (k == NameKind.free) = true
    · rw [if_pos q]
      refine clOf_keep r _ x ?_
      rw [List.lookup_cons]
      cases hx : x == n with
      | true => exact ⟨_, rfl⟩
      | false => exact e
    · rw [if_neg q]
      exact clOf_keep r _ x e
theorem clOf_has {cells : List (Str × Addr)} : ∀ (names : List (Str × NameKind)) (cs : List (Str × Addr)) (x : Str), names.lookup x = some .free → ∃ c, (clOf cells names cs).lookup x = some c
  | [], cs, x, e => by simp at e
  | (n, k) :: r, cs, x, e => by
    rw [List.lookup_cons] at e
    unfold clOf
    cases hx : x == n with
    | true =>
      rw [hx] at e
      have e' : k = .free := Option.some.inj e
      subst e'
      rw [if_pos (by decide)]
      refine clOf_keep r _ x ?_
      rw [List.lookup_cons, hx]
      exact ⟨_, rfl⟩
    | false =>
      rw [hx] at e
      by_cases q : (k == NameKind.free) = true
      · rw [if_pos q]; exact clOf_has r _ x e
      · rw [if_neg q]; exact clOf_has r _ x e
/-- a name as the block bears it: taken from around by a cell, or as it is -/
def asCell (env : Env) (p : Str × NameKind) : Bool := p.2 == .free && env.scope.kind == .function && env.kindOf p.1 == some .cell
def inBlock (env : Env) (p : Str × NameKind) : Str × NameKind := if asCell env p = true then (p.1, .cell) else p
theorem inBlock_fst (env : Env) (p : Str × NameKind) : (inBlock env p).1 = p.1 := by unfold inBlock; split <;> rfl
theorem inBlock_snd (env : Env) (p : Str × NameKind) : (inBlock env p).2 = p.2 ∨ ((inBlock env p).2 = .cell ∧ p.2 = .free) := by
  unfold inBlock
  split
  · rename_i h
    refine .inr ⟨rfl, ?_⟩
    unfold asCell at h
    cases e : p.2 <;> simp [e] at h <;> rfl
  · exact .inl rfl
theorem relabel_names (scope : Scope) (env : Env) : (relabel scope env).names = scope.names.map (inBlock env) := rfl
theorem look_map {f : Str × NameKind → Str × NameKind} (hf : ∀ p, (f p).1 = p.1) : ∀ (l : List (Str × NameKind)) (x : Str), (l.map f).lookup x = none ∧ l.lookup x = none ∨ ∃ p ∈ l, (l.map f).lookup x = some (f p).2 ∧ l.lookup x = some p.2
  | [], _ => .inl ⟨rfl, rfl⟩
  | p :: r, x => by
    have e1 : ((p :: r).map f).lookup x = if x == p.1 then some (f p).2 else (r.map f).lookup x := by
      show List.lookup x (((f p).1, (f p).2) :: r.map f) = _
      rw [List.lookup_cons, hf p]; cases x == p.1 <;> rfl
    have e2 : (p :: r).lookup x = if x == p.1 then some p.2 else r.lookup x := by
      show List.lookup x ((p.1, p.2) :: r) = _
      rw [List.lookup_cons]; cases x == p.1 <;> rfl
    rw [e1, e2]
    cases x == p.1
    · rcases look_map hf r x with z | ⟨q, hq, z⟩
      · exact .inl z
      · exact .inr ⟨q, List.mem_cons_of_mem _ hq, z⟩
    · exact .inr ⟨p, List.mem_cons_self, rfl, rfl⟩
theorem relabel_kind {scope : Scope} {env : Env} {x : Str} {k' : NameKind} (h : (relabel scope env).names.lookup x = some k') : scope.names.lookup x = some k' ∨ (k' = .cell ∧ scope.names.lookup x = some .free) := by
  rw [relabel_names] at h
  rcases look_map (inBlock_fst env) scope.names x with ⟨z, _⟩ | ⟨p, _, z, e⟩
  · rw [z] at h; cases h
  · rw [z] at h
    obtain rfl := Option.some.inj h
    rcases inBlock_snd env p with q | ⟨q, q'⟩
    · rw [q]; exact .inl e
    · exact .inr ⟨q, by rw [e, q']⟩
theorem relabel_free {scope : Scope} {env : Env} {x : Str} (h : scope.names.lookup x = some .free) : (relabel scope env).names.lookup x = some .cell ∨ (relabel scope env).names.lookup x = some .free := by
  rw [relabel_names]
  rcases look_map (inBlock_fst env) scope.names x with ⟨_, z⟩ | ⟨p, _, z, e⟩
  · rw [z] at h; cases h
  · rw [e] at h
    rcases inBlock_snd env p with q | ⟨q, _⟩
    · rw [z, q, h]; exact .inr rfl
    · rw [z, q]; exact .inl rfl

/-- the context of a comprehension's block -/
def cxComp (X : Cx) (N' : List Str) (scope : Scope) (C : Addr) (s₀ : Shared) (H₀ : Hp) (fp : List Addr) (pins : List (Addr × Obj)) : Cx :=
  { X with N := N', s₀ := s₀, H₀ := H₀, env := compEnvC scope (clOf X.env.cells scope.names []) C X.env, outer := X.stack, stack := X.stack, ex := fp, fn := fun _ => false, pn := X.pn ++ pins, xe := fun _ _ => False }
/-- the block's slots at its entry: cap says from which slot of around each one is taken -/
def capσ (cap : List (Option Nat)) (σ : St) : St := cap.map fun o => match o with | some i => (match σ[i]? with | some v => v | none => none) | none => none

/-- the test of a comprehension, where it has one -/
def tst (M : Model) (A : Around) (env : Env) (E : Value → Shared → Prop) (o : Option Expr) (Q : Bool → Shared → Prop) (s : Shared) : Prop := match o with
  | none => Q true s
  | some c => wpAny M A (isTrue c env (eval c env)) Q E s
theorem tst_mono {M : Model} {A : Around} {env : Env} {E : Value → Shared → Prop} {o : Option Expr} {Q Q' : Bool → Shared → Prop} {s : Shared} (h : tst M A env E o Q s) (k : ∀ b z, Q b z → Q' b z) : tst M A env E o Q' s := by
  cases o with
  | none => exact k _ _ h
  | some c => exact thn h k
def PTo (X : Cx) (o : Option Expr) (t : TT) : Prop :=
  ∀ (pins : List (Addr × Obj)) (s : Shared) (σ : St) (H : Hp) (Q : Bool → Hp → Prop), Inv X pins σ H s → t σ H Q → tst (model X.prog X.w) X.A X.env X.xe o (TP X pins σ Q) s
def tYes : TT := fun _ H Q => Q true H
theorem pt_none {X : Cx} : PTo X none tYes := fun _ _ _ H _ I h => ⟨H, I, h⟩
theorem pt_some {X : Cx} {c : Expr} {t : TT} (h : PT X c t) : PTo X (some c) t := fun pins s σ H Q I hw => h pins s σ H Q I hw
abbrev NoX : Value → Shared → Prop := fun _ _ => False
/-- one turn: the iterator is asked; an item goes to the target, past the test, its value into the list -/
def Go (M : Model) (A : Around) (tg elt : Expr) (o : Option Expr) (it acc : Value) (env : Env) (R : Result → Shared → Prop) (onward : Shared → Prop) (s : Shared) : Prop :=
  wpAny M A (pyNext it) (fun r a => match r with
    | none => R (.ok .next) a
    | some v => wpAny M A (letOwnedTupleGo tg it v) (fun _ b => wpAny M A (assign tg env v) (fun _ c => tst M A env NoX o (fun yes d =>
        if yes = true then wpAny M A (eval elt env) (fun x e => wpAny M A (call (.builtin "list.append") [acc, x]) (fun _ f => onward f) NoX e) NoX d else onward d) c) NoX b) NoX a) NoX s
theorem comp_loop {prog : Program} {w : World} {A : Around} {R : Result → Shared → Prop} {s : Shared} {elt tg iter : Expr} {o : Option Expr} {scope : Scope} {pos : Pos} {it acc : Value} {env : Env} (J : Nat → Shared → Prop)
    (turn : ∀ n s, J n s → Go (model prog w) A tg elt o it acc env R (fun z => ∃ m, m < n ∧ J m z) s) (n : Nat) (h : J n s) :
    codeAny (model prog w) A (.compLoop (.ListComp elt [⟨tg, iter, o.toList, 0⟩] scope pos) 0 it acc env) R s := by
  cases o with
  | none =>
    refine PySem.W.kcp_loop J (fun n a ha => wpAny_mono (turn n a ha) (fun r b hb => ?_) fun _ _ z => z.elim) n h
    cases r with
    | none => exact hb
    | some v => exact wpAny_mono hb (fun _ c hc => wpAny_mono hc (fun _ d hd => wpAny_mono (show wpAny _ _ _ _ _ d from hd) (fun x e he => wpAny_mono he (fun _ _ q => q) fun _ _ z => z.elim) fun _ _ z => z.elim) fun _ _ z => z.elim) fun _ _ z => z.elim
  | some t =>
    refine PySem.W.kct_loop J (fun n a ha => wpAny_mono (turn n a ha) (fun r b hb => ?_) fun _ _ z => z.elim) n h
    cases r with
    | none => exact hb
    | some v =>
      refine wpAny_mono hb (fun _ c hc => wpAny_mono hc (fun _ d hd => wpAny_mono (show wpAny _ _ _ _ _ d from hd) (fun yes e he => ?_) fun _ _ z => z.elim) fun _ _ z => z.elim) fun _ _ z => z.elim
      cases yes
      · exact he
      · exact wpAny_mono (show wpAny _ _ _ _ _ e from he) (fun x f hf => wpAny_mono hf (fun _ _ q => q) fun _ _ z => z.elim) fun _ _ z => z.elim

/-- the names that the block takes from around, and its own -/
structure CapOk (N N' : List Str) (sc scope : Scope) (cap : List (Option Nat)) : Prop where
  kind : scope.kind = .function
  nocell : ∀ y ∈ scope.names, y.2 ≠ .cell
  names : ∀ y ∈ scope.names, y.2 = .local → scope.names.lookup y.1 = some .local
  free : ∀ y ∈ scope.names, y.2 = .free → sc.names.lookup y.1 = some .cell ∨ sc.names.lookup y.1 = some .free
  len : cap.length = N'.length
  cap : ∀ p ∈ N'.zip cap, ∀ i, p.2 = some i → N[i]? = some p.1 ∧ scope.names.lookup p.1 = some .free ∧ (sc.names.lookup p.1 = some .cell ∨ sc.names.lookup p.1 = some .free)
theorem lookup_mem {α : Type} : ∀ {l : List (Str × α)} {x : Str} {a : α}, l.lookup x = some a → (x, a) ∈ l
  | [], _, _, h => by simp at h
  | (n, k) :: r, x, a, h => by
    rw [List.lookup_cons] at h
    cases hx : x == n with
    | true =>
      rw [hx] at h
      have e : k = a := Option.some.inj h
      have e2 : x = n := by simpa using hx
      subst e e2
      exact List.mem_cons_self
    | false => rw [hx] at h; exact List.mem_cons_of_mem _ (lookup_mem h)

theorem Un.sameBut {fs ex : List Addr} {H H' : Hp} {h h1 h2 : Heap} {C : Addr} (u : Un fs ex H H' h h1) (hC : h.objs.size ≤ C) (sb : Heap.SameBut C h1 h2) : Un fs ex H H' h h2 := by
  have ne : ∀ b o, h.get? b = some o → b ≠ C := fun b o e => Nat.ne_of_lt (Nat.lt_of_lt_of_le (Heap.lt_size e) hC)
  exact ⟨fun b o e n hb hx => (sb.2 b (ne b o e)).trans (u.keep b o e n hb hx), fun b o e n hb hx => let ⟨sl, q⟩ := u.slot b o e n hb hx; ⟨sl, (sb.2 b (ne b o e)).trans q⟩,
    u.free, fun b o e hx => let ⟨o', q⟩ := u.there b o e hx; ⟨o', (sb.2 b (ne b o e)).trans q⟩, u.tups, u.frzs, u.tbls⟩
theorem HOk.sameBut {P : Program} {w : World} {H : Hp} {h h' : Heap} {C : Addr} (ok : HOk P w H h) (hC : H C = none) (sb : Heap.SameBut C h h') : HOk P w H h' := fun b ob e => by
  refine (ok b ob e).stay (fun c w' hc q => (sb.2 c ?_).trans q) (fun _ q => q) fun _ _ q => q
  rintro rfl
  rcases hc with rfl | hc
  · rw [hC] at e; cases e
  · rw [hC] at hc; cases hc

/-- what a comprehension wants of its invariant W: by the turn, a measure, the list so far, the block's slots and the heap -/
def LCW (J : It) (g : TG) (tt : TT) (te : TE) (l : Addr) (Q : VK) (W : Nat → Nat → List V → St → Hp → Prop) : Prop :=
  ∀ i m acc σ' H', W i m acc σ' H' → H' l = some (.lst acc) ∧
    ((J.stop i H' ∧ Q (.ref l) H') ∨ (J.go i H' ∧ ∀ x H2, J.yld i H' x H2 → g x σ' H2 fun σ3 H3 => tt σ3 H3 fun b H4 =>
      if b = true then te σ3 H4 fun y H5 => H5 l = some (.lst acc) ∧ acc.length < sizeLine ∧ ∃ m', m' < m ∧ W (i + 1) m' (acc ++ [y]) σ3 (upd H5 l (.lst (acc ++ [y])))
      else ∃ m', m' < m ∧ W (i + 1) m' acc σ3 H4))
/-- [elt for tg in iter if ..] -/
def tLC (cap : List (Option Nat)) (wi : TI) (g : TG) (tt : TT) (te : TE) : TE := fun σ H Q => wi σ H fun J H1 => ∀ l, H1 l = none →
  ∃ W : Nat → Nat → List V → St → Hp → Prop, (∃ m, W 0 m [] (capσ cap σ) (upd H1 l (.lst []))) ∧ LCW J g tt te l Q W
end L2
end
section
set_option maxHeartbeats 4000001
namespace L2
open PySem PySem.Spec PyProof.Rows
/-- the block, whatever is done with its list at the end -/
theorem lc_core {X : Cx} {elt tg iter : Expr} {o : Option Expr} {scope : Scope} {pos ppos : Pos} {wi : TI} {g : TG} {tt : TT} {te : TE} {N' : List Str} {cap : List (Option Nat)} {use : Option (Value → Sem Unit)} {Q0 : Value → Shared → Prop}
    (hc : X.calm = true) (hi : PI X tg iter wi) (ck : CapOk X.N N' X.env.scope scope cap)
    (hg : ∀ C s₀ H₀ fp pins, PG (cxComp X N' scope C s₀ H₀ fp pins) tg g)
    (ht : ∀ C s₀ H₀ fp pins, PTo (cxComp X N' scope C s₀ H₀ fp pins) o tt)
    (he : ∀ C s₀ H₀ fp pins, PE (cxComp X N' scope C s₀ H₀ fp pins) elt te)
    (hs : ∀ x, foldedSetIterable iter X.env x = pure x) {pins : List (Addr × Obj)} {s : Shared} {σ : St} {H : Hp} {Q : VK} (I : Inv X pins σ H s) (h : tLC cap wi g tt te σ H Q)
    (fin : ∀ (l C : Addr) (H4 : Hp) (s5 : Shared) (m : Str → Option Value), Inv X pins σ H4 s5 → Q (.ref l) H4 → s5.heap.Ns C m → FpOk X pins H4 C → compPost (model X.prog X.w) X.A X.xe use Q0 (.ref l) C (.ok .next) s5) :
    wpAny (model X.prog X.w) X.A (comprehension (.ListComp elt [⟨tg, iter, o.toList, 0⟩] scope pos) scope X.env ppos (newList []) false (eval iter X.env) use) Q0 X.xe s := by
  have hcells : ∀ y ∈ scope.names, y.2 = .free → ∃ c, X.env.cells.lookup y.1 = some c := fun y hy hf => I.ok.has y.1 (ck.free y hy hf)
  refine wpAny_comprehension_free (use := use) rfl hs (closure_eq hcells) ck.kind ck.names (thn (hi pins s σ H _ I h) fun v s1 h1 => thn h1 fun itv s2 h2 => ?_)
  obtain ⟨it, fp, tn, J, H2, e, I2, T, st2, f2, body⟩ := h2
  subst e
  have hfr2 : H2 s2.heap.objs.size = none := I2.hok.fresh (Nat.le_refl _)
  obtain ⟨W, ⟨m0, w0⟩, turn⟩ := body s2.heap.objs.size hfr2
  have I3 : Inv X pins σ (upd H2 s2.heap.objs.size (.lst [])) { s2 with heap := s2.heap.push { cls := .type "list", data := .seq ([] : List Value).toArray }, toks := s2.toks } := I2.lnew (its := []) (t' := s2.toks) .nil (Nat.zero_le _)
  refine wpAny_newObj_type (wpAny_newFunctionEnv ck.nocell (by intro y hy; simp at hy) (fun h₁ hns₁ hsb₁ => ?_) ck.kind)
  dsimp only at hns₁ hsb₁ ⊢
  generalize hl : s2.heap.objs.size = l at *
  generalize hP : s2.heap.push { cls := .type "list", dict := none, data := .seq ([] : List Value).toArray } = P2 at *
  generalize hH3 : upd H2 l (.lst []) = H3 at *
  have old : ∀ b o, P2.get? b = some o → h₁.get? b = some o := fun b o e => hsb₁.extBut b o (Nat.ne_of_lt (Heap.lt_size e)) (Heap.get?_push_of_some _ e)
  have old2 : ∀ b o, s2.heap.get? b = some o → P2.get? b = some o := fun b o e => hP ▸ Heap.get?_push_of_some _ e
  have fpl : ∀ b ∈ fp, b < l := fun b hb => by
    obtain ⟨o, e, _⟩ := T.obj _ _ st2 b hb
    rw [← hl]; exact Heap.lt_size e
  have fp3 : ∀ b ∈ fp, H3 b = none := fun b hb => by
    rw [← hH3, upd_ne (Nat.ne_of_lt (fpl b hb))]; exact (f2 b hb).1
  have hPs : P2.objs.size = l + 1 := by rw [← hP, Heap.size_push, hl]
  have subc : ∀ x c, (clOf X.env.cells scope.names []).lookup x = some c → X.env.cells.lookup x = some c := fun x c e => clOf_sub _ _ x c hcells (fun _ _ z => by simp at z) e
  generalize hs3 : ({ s2 with heap := P2, toks := s2.toks } : Shared) = s3 at *
  have hs3h : s3.heap = P2 := by rw [← hs3]
  let Y := cxComp X N' scope P2.objs.size s3 H3 fp pins
  have hYok : Y.Ok := by
    refine ⟨I3.ok.mod, ck.kind, I3.ok.glob, I3.ok.blt, by show s3.heap.objs.size ≤ P2.objs.size; rw [hs3h]; exact Nat.le_refl _, fun x y c e1 e2 => I3.ok.inj x y c (subc x c e1) (subc y c e2), fun x hx => ?_, fun x c hx => absurd (show false = true from hx) Bool.false_ne_true, I3.ok.hd, I3.ok.frames, .inl rfl, fun b hb => ⟨?_, fun x c e => ?_⟩, I3.bs,
      Nat.le_trans I3.ok.bsz I3.sz, fun b o e hb => ?_, fun b hb hz => ?_, I3.stack, I3.stkFree⟩
    · have hx' : scope.names.lookup x = some .free := by
        rcases hx with hx | hx
        · rcases relabel_kind hx with z | z
          · exact absurd rfl (ck.nocell _ (lookup_mem z))
          · exact z.2
        · rcases relabel_kind hx with z | z
          · exact z
          · exact z.2
      exact clOf_has _ _ x hx'
    · exact Nat.ne_of_lt (by show b < P2.objs.size; rw [hPs]; exact Nat.lt_succ_of_lt (fpl b hb))
    · exact (f2 b hb).2.2.2.2.1 x c (subc x c e)
    · rcases (f2 b hb).2.2.2.1 with z | z
      · exact I3.ok.noex b o e z
      · exact absurd (Nat.lt_of_lt_of_le (Heap.lt_size e) (Nat.le_trans I3.ok.bsz z)) (Nat.lt_irrefl _)
    · rcases List.mem_cons.mp (I3.stkSub b hz) with z | z
      · exact (f2 b hb).2.1 z
      · exact (f2 b hb).2.2.1 z
  have hYi : Inv Y [] (capσ cap σ) H3 { s2 with heap := h₁, toks := s2.toks } := by
    refine ⟨hYok, by show s2.os = s3.os; rw [← hs3], I2.bare, by show Un _ _ _ _ s3.heap h₁; rw [hs3h]; exact Un.kept old, ⟨_, hns₁, fun j x v e1 e2 e3 => ?_⟩, fun x c e => ?_, ?_, fun x c e => I3.freeC x c (subc x c e), fun p hp => ?_, fun b o e => ?_, ?_⟩
    · have e1' : N'[j]? = some x := e1
      unfold capσ at e2
      rw [List.getElem?_map] at e2
      cases ec : cap[j]? with
      | none => rw [ec] at e2; cases e2
      | some oc =>
        rw [ec] at e2
        cases oc with
        | none => cases e2
        | some i =>
          have e2' : σ[i]? = some (some v) := by
            cases ei : σ[i]? with
            | none => simp [ei] at e2
            | some v' =>
              simp [ei] at e2
              rw [e2]
          have hz : (x, some i) ∈ N'.zip cap := by
            refine List.mem_of_getElem? (i := j) ?_
            rw [List.getElem?_zip_eq_some]
            exact ⟨e1', ec⟩
          obtain ⟨hN, hf, hk⟩ := ck.cap _ hz i rfl
          obtain ⟨m, hn, hlo⟩ := I3.loc
          obtain ⟨u, r, lk⟩ := hlo i x v hN e2' (by rcases hk with z | z; exact .inr (.inl z); exact .inr (.inr z))
          refine ⟨u, r, .inr ⟨?_, ?_⟩⟩
          · exact relabel_free hf
          · rcases lk with ⟨z, _⟩ | ⟨_, c, hcx, hcell⟩
            · have z' : X.env.scope.names.lookup x = some .local := z
              rcases hk with q | q
              · rw [q] at z'; cases z'
              · rw [q] at z'; cases z'
            · obtain ⟨c', hc'⟩ := clOf_has (cells := X.env.cells) scope.names [] x hf
              have := subc x c' hc'
              rw [hcx] at this; cases this
              obtain ⟨ob, e, d⟩ := hcell
              rw [hs3h] at e
              exact ⟨c, hc', ob, old c ob e, d⟩
    · obtain ⟨v, ob, e', d⟩ := I3.cell x c (subc x c e)
      rw [hs3h] at e'
      exact ⟨v, ob, old c ob e', d⟩
    · refine I3.hok.fresh ?_
      rw [hs3h]; exact Nat.le_refl _
    · have hp' : p ∈ X.pn ++ pins := (List.mem_append.mp hp).elim (fun z => z) (fun z => nomatch z)
      obtain ⟨e, n, ne, nf, d⟩ := I3.pin p hp'
      rw [hs3h] at e
      refine ⟨old _ _ e, n, Nat.ne_of_lt (Heap.lt_size e), fun z => ?_, d⟩
      rcases List.mem_cons.mp (I3.stkSub _ z) with q | q
      · exact ne q
      · exact nf q
    · have := I3.hok.kept (h' := h₁) (fun b u q => old b u (by rw [← hs3h]; exact q))
      exact this b o e
    · show (cap.map _).length = N'.length
      rw [List.length_map, ck.len]
  have stat : ∀ {H' : Hp}, (∀ b ∈ fp, H' b = none) → ∀ b ∈ fp, FpOk Y [] H' b := fun {H'} hn b hb => by
    refine ⟨hn b hb, (hYok.exf b hb).1, hYok.exfs b hb, .inl hb, (hYok.exf b hb).2, fun p hp => ?_⟩
    have hp' : p ∈ X.pn ++ pins := (List.mem_append.mp hp).elim (fun z => z) (fun z => nomatch z)
    exact (f2 b hb).2.2.2.2.2 p hp'
  have st1 : tn 0 h₁ := T.keep 0 _ _ st2 fun b hb o e => old b o (old2 b o e)
  have loop : codeAny (model X.prog X.w) X.A (.compLoop (.ListComp elt [⟨tg, iter, o.toList, 0⟩] scope pos) 0 (.ref it) (.ref l) Y.env) (compPost (model X.prog X.w) X.A X.xe use Q0 (.ref l) P2.objs.size) { s2 with heap := h₁, toks := s2.toks } := by
    refine comp_loop (fun n s' => ∃ i acc σ' H', Inv Y [] σ' H' s' ∧ tn i s'.heap ∧ (∀ b ∈ fp, H' b = none) ∧ W i n acc σ' H') ?_ m0 ⟨0, [], _, H3, hYi, st1, fp3, w0⟩
    rintro n s4 ⟨i, acc, σ4, H4, I4, st4, fr4, w4⟩
    obtain ⟨hlst, q4⟩ := turn i n acc σ4 H4 w4
    rcases q4 with ⟨stop, qn⟩ | ⟨go, step⟩
    · refine thn (T.done Y rfl rfl rfl hc i [] s4 σ4 H4 Y.xe I4 (stat fr4) st4 stop) fun r s5 ⟨hr, I5⟩ => ?_
      subst hr
      obtain ⟨m, hn, _⟩ := id I5.loc
      have un : Un (frs X.stack) fp H3 H4 s3.heap s5.heap := I5.base
      have sz3 : s3.heap.objs.size ≤ P2.objs.size := by rw [hs3h]; exact Nat.le_refl _
      have IX : Inv X pins σ H4 s5 := I3.call' (ch := fp) I5.os un I5.hok I5.bare fun b hb => ⟨(f2 b hb).2.2.2.1, (f2 b hb).2.1, (f2 b hb).2.2.2.2.1, (f2 b hb).2.2.2.2.2⟩
      exact fin l P2.objs.size H4 s5 m IX qn hn (I3.fpOk sz3 I5.free)
    · refine thn (T.item Y rfl rfl rfl hc i [] s4 σ4 H4 Y.xe I4 (stat fr4) st4 go) fun r s5 ⟨u, hr, h5⟩ => ?_
      subst hr
      refine thn h5 fun _ s6 ⟨x, H6, I6, r6, y6, st6, fr6⟩ => ?_
      have I6' := I6.pinned (stat fr6) (T.obj _ _ st6)
      refine thn (hg _ _ _ _ _ _ s6 σ4 H6 x u _ I6' r6 (step x H6 y6)) fun _ s7 ⟨σ7, H7, I7, q7⟩ => ?_
      refine tst_mono (ht _ _ _ _ _ _ s7 σ7 H7 _ I7 q7) fun b s8 ⟨H8, I8, q8⟩ => ?_
      have again : ∀ {σ9 : St} {H9 : Hp} {s9 : Shared} {acc9 : List V}, Inv Y ([] ++ pinsAt fp s6.heap) σ9 H9 s9 → (∃ m', m' < n ∧ W (i + 1) m' acc9 σ9 H9) → ∃ m, m < n ∧ ∃ i acc σ' H', Inv Y [] σ' H' s9 ∧ tn i s9.heap ∧ (∀ b ∈ fp, H' b = none) ∧ W i m acc σ' H' := fun {σ9 H9 s9 acc9} I9 ⟨m', hm, w9⟩ => by
        refine ⟨m', hm, i + 1, acc9, σ9, H9, I9.unpinned, T.keep _ _ _ st6 fun b hb o e => (I9.pin (b, o) (List.mem_append_right _ (List.mem_append_right _ (mem_pinsAt hb e)))).1, fun b hb => ?_, w9⟩
        obtain ⟨o, e, d⟩ := T.obj _ _ st6 b hb
        exact (I9.pin (b, o) (List.mem_append_right _ (List.mem_append_right _ (mem_pinsAt hb e)))).2.1
      cases b with
      | false =>
        rw [if_neg Bool.false_ne_true] at q8 ⊢
        exact again I8 q8
      | true =>
        rw [if_pos rfl] at q8 ⊢
        refine thn (he _ _ _ _ _ _ s8 σ7 H8 _ I8 q8) fun yv s9 ⟨y, H9, I9, r9, hl9, hz9, q9⟩ => ?_
        refine thn (mt_append (X := Y) _ s9 σ7 H9 (.ref l) [y] (.ref l) [yv] (fun _ H' => H' = upd H9 l (.lst (acc ++ [y]))) I9 rfl (.cons r9 .nil) ⟨l, acc, y, rfl, rfl, hl9, hz9, rfl⟩) fun _ s10 ⟨_, H10, I10, _, e10⟩ => ?_
        subst e10
        exact again I10 q9
  exact codeAny_compStart_list loop (T.self X.A 0 _ _ _ st1 loop)
/-- a block's own record goes -/
theorem Inv.gone {X : Cx} {pins : List (Addr × Obj)} {σ : St} {H : Hp} {s : Shared} {C : Addr} {h' : Heap} (I : Inv X pins σ H s) (f : FpOk X pins H C) (sb : Heap.SameBut C s.heap h') : Inv X pins σ H { s with heap := h' } :=
  I.turned (t' := s.toks) (fun b o hb e => (sb.2 b hb).trans e) f.1 f.2.1 f.2.2.2.1 f.2.2.2.2.1 f.2.2.2.2.2
theorem pe_lc {X : Cx} {elt tg iter : Expr} {o : Option Expr} {scope : Scope} {pos : Pos} {wi : TI} {g : TG} {tt : TT} {te : TE} {N' : List Str} {cap : List (Option Nat)}
    (hc : X.calm = true) (hi : PI X tg iter wi) (ck : CapOk X.N N' X.env.scope scope cap)
    (hg : ∀ C s₀ H₀ fp pins, PG (cxComp X N' scope C s₀ H₀ fp pins) tg g)
    (ht : ∀ C s₀ H₀ fp pins, PTo (cxComp X N' scope C s₀ H₀ fp pins) o tt)
    (he : ∀ C s₀ H₀ fp pins, PE (cxComp X N' scope C s₀ H₀ fp pins) elt te)
    (hs : ∀ x, foldedSetIterable iter X.env x = pure x := by intro _; rfl) :
    PE X (.ListComp elt [⟨tg, iter, o.toList, 0⟩] scope pos) (tLC cap wi g tt te) := by
  intro pins s σ H Q I h
  rw [eval_ListComp]
  exact lc_core (use := none) hc hi ck hg ht he hs I h fun l C H4 s5 m I5 q hn f => ⟨m, hn, fun h' sb => ⟨.ref l, H4, I5.gone f sb, rfl, q⟩⟩
/-- name = [..]: stored while the block still stands -/
theorem ps_setLC {X : Cx} {i : Nat} {y : Str} {elt tg iter : Expr} {o : Option Expr} {scope : Scope} {pos spos py : Pos} {wi : TI} {g : TG} {tt : TT} {te : TE} {N' : List Str} {cap : List (Option Nat)}
    (hN : X.N.Nodup) (hi' : X.N[i]? = some y) (hy : X.env.scope.names.lookup y = some .local) (hc : X.calm = true) (hi : PI X tg iter wi) (ck : CapOk X.N N' X.env.scope scope cap)
    (hg : ∀ C s₀ H₀ fp pins, PG (cxComp X N' scope C s₀ H₀ fp pins) tg g)
    (ht : ∀ C s₀ H₀ fp pins, PTo (cxComp X N' scope C s₀ H₀ fp pins) o tt)
    (he : ∀ C s₀ H₀ fp pins, PE (cxComp X N' scope C s₀ H₀ fp pins) elt te)
    (hs : ∀ x, foldedSetIterable iter X.env x = pure x := by intro _; rfl)
    (hsw : swapsWith (.ListComp elt [⟨tg, iter, o.toList, 0⟩] scope pos) (some (.Name y py)) spos.line X.env = pure true := by with_unfolding_all rfl) :
    PS X (.Assign [.Name y py] (.ListComp elt [⟨tg, iter, o.toList, 0⟩] scope pos) spos) (tAsg (tLC cap wi g tt te) (gName i)) := by
  intro pins s σ H D I h
  rw [exec_Assign_Name_used y py _ spos hsw]
  refine wpAny_bind (wpAny_standAt (wpAny_bind (wpAny_bind (thn (lc_core (use := some (assign (.Name y py) X.env)) (Q0 := fun _ z => SP X pins D .next z) hc hi ck hg ht he hs I h fun l C H4 s5 m I5 q hn f => ?_) fun _ z hz => wpAny_pure (wpAny_pure hz)))))
  refine wpAny_assign_Name (store_ok2 (v := .ref l) I5 hN hi' (.inl hy) rfl (fun s6 I6 ⟨a, sb, ha⟩ => ?_) (.inr hy))
  have nC : C ≠ a := by
    rcases ha with z | z
    · rw [z]; exact f.2.1
    · exact fun w => f.2.2.2.2.1 y a z w.symm
  have hn6 : s6.heap.Ns C m := hn.sameBut sb nC
  exact ⟨m, hn6, fun h' sb' => ⟨_, H4, I6.gone f sb', q⟩⟩
end L2
end
section
set_option maxHeartbeats 4000001
/-! Own rules: iterators over a list or a tuple, enumerate and zip over any drawn iterator. -/
namespace Own
open PySem PySem.Spec PyProof.Rows
section
variable {M : Model} {prog : Program} {w : World} {A : Around} {E : Value → Shared → Prop} {s : Shared} {α : Type} {Q : α → Shared → Prop}
/-- read a field, go on -/
theorem rf {a : Addr} {o : Obj} {vs : Array Value} {x : Value} {f : Value → Sem α} (k : Nat) (ho : s.heap.get? a = some o) (hd : o.data = .fields vs) (hx : vs[k]? = some x) (h : wpAny M A (f x) Q E s) :
    wpAny M A (field (.ref a) k >>= f) Q E s := wpAny_bind (wpAny_field ho hd hx h)
/-- a def of the machine's own that is asked by __next__ -/
theorem nx {T id : String} {B : Builtin} {it : Addr} {P : Value → Shared → Prop} (slot : Slot T "__next__" id) (ty : s.TypeIs (.ref it) T) (en : entryFor table id = some B) (ok : argsOk id ⟨[.ref it], []⟩)
    (h : wpAny (model prog w) A.in1 (B ⟨[.ref it], []⟩) (fun r s' => ∃ v, r = .done (.ret v) ∧ P v s') E s) : wpAny (model prog w) A (Builtin.SmallTypes.nextOf (.ref it)) P E s := by
  unfold Builtin.SmallTypes.nextOf; refine wpAny_bind (wpAny_callSpecial?_slot (name := "__next__") ty slot (wpAny_call_entry slot ty en (thn2 h) ok))
where
  thn2 {B' : Sem Fin} {P : Value → Shared → Prop} {A' : Around} (h : wpAny (model prog w) A' B' (fun r s' => ∃ v, r = .done (.ret v) ∧ P v s') E s) :
      wpAny (model prog w) A' B' (fun r s' => ∃ v, r = .done (.ret v) ∧ wpAny (model prog w) A (pure v) P E s') E s :=
    wpAny_mono h (fun _ _ ⟨v, e, q⟩ => ⟨v, e, wpAny_pure q⟩) fun _ _ z => z
end

/-- the exception that ends an iterator -/
theorem ends {A : Around} {E : Value → Shared → Prop} {prog : Program} {w : World} {s : Shared} {α : Type} {Q : α → Shared → Prop} (hh : A.handled = none)
    (h : ∀ h' x, (∀ b o, s.heap.get? b = some o → h'.get? b = some o) → (∃ o, h'.get? x = some o ∧ o.cls = .type "StopIteration") → E (.ref x) { s with heap := h' }) :
    wpAny (model prog w) A (Builtin.SmallTypes.stopIteration : Sem α) Q E s := by
  unfold Builtin.SmallTypes.stopIteration newExc newTuple
  refine wpAny_bind (wpAny_bind (wpAny_newObj_type ?_ (by size_fits)))
  refine wpAny_bind (wpAny_of_eq (a := Value.none) (by rfl) (wpAny_newObj_type (wpAny_raiseNew_none hh (h _ _ (fun b o e => ?_) ⟨_, Heap.get?_push_size _ rfl, rfl⟩)) (by size_fits)))
  exact Heap.get?_push_of_some _ (Heap.get?_push_of_some _ e)

/-! ### a list (true) or a tuple (false), and the record of its iterator -/
def cN : Bool → String
  | true => "list_iterator"
  | false => "tuple_iterator"
abbrev RIt (b : Bool) (h : Heap) (it a : Addr) (i : Int) : Prop := h.get? it = some { cls := .type (cN b), dict := none, data := .fields #[.ref a, .int i 0], slots := #[] }
def SqO : Bool → Heap → Addr → Array Value → Prop
  | true, h, a, xs => h.IsList a xs
  | false, h, a, xs => h.IsTuple a xs
theorem SqO.ob {b : Bool} {h : Heap} {a : Addr} {xs : Array Value} (x : SqO b h a xs) : ∃ o n, h.get? a = some o ∧ o.data = .seq xs n := by
  cases b <;> (obtain ⟨o, e, _, n, d⟩ := x; exact ⟨o, n, e, d⟩)
theorem SqO.mv {b : Bool} {h h' : Heap} {a : Addr} {xs : Array Value} (x : SqO b h a xs) (k : ∀ o, h.get? a = some o → h'.get? a = some o) : SqO b h' a xs := by
  cases b <;> (obtain ⟨o, e, r⟩ := x; exact ⟨o, k o e, r⟩)
theorem SqO.ne {b b' : Bool} {h : Heap} {a it a' : Addr} {i : Int} {xs : Array Value} (x : SqO b h a xs) (y : RIt b' h it a' i) : a ≠ it := fun z => by
  obtain ⟨o, n, e, d⟩ := x.ob
  rw [z, y] at e; cases e; cases d
section
variable {prog : Program} {w : World} {A : Around} {E : Value → Shared → Prop} {s : Shared}
theorem ty {b : Bool} {it a : Addr} {i : Int} (y : RIt b s.heap it a i) : s.TypeIs (.ref it) (cN b) := ⟨_, y, rfl⟩
/-- the machine's step of both, an item left -/
theorem rise_go {b : Bool} {it a : Addr} {i : Nat} {xs : Array Value} {x : Value} {P : Value → Shared → Prop} {B : Builtin} (hB : B = match b with | true => Builtin.«list_iterator.__next__» | false => Builtin.«tuple_iterator.__next__»)
    (y : RIt b s.heap it a i) (sq : SqO b s.heap a xs) (hx : xs[i]? = some x) (h : ∀ h', RIt b h' it a (i + 1) → Heap.SameBut it s.heap h' → P x { s with heap := h' }) :
    wpAny (model prog w) A (B ⟨[.ref it], []⟩) (fun r s' => ∃ v, r = .done (.ret v) ∧ P v s') E s := by
  obtain ⟨o, n, e, d⟩ := sq.ob
  have fin : wpAny (model prog w) A (match xs[(i : Int).toNat]? with
      | some x => (do setField (.ref it) 1 (rawInt ((i : Int) + 1)); ret x : Sem Fin)
      | none => Builtin.SmallTypes.stopIteration) (fun r s' => ∃ v, r = .done (.ret v) ∧ P v s') E s := by
    rw [Int.toNat_natCast, hx]
    exact wpAny_bind (wpAny_setField_rec y (show 1 < 2 by decide) fun h' y' sb => wpAny_pure ⟨x, rfl, h h' y' sb⟩)
  rw [Int.toNat_natCast, hx] at fin
  subst hB
  cases b <;>
  · refine rf 0 y rfl rfl (PyIte (show ¬ ((Value.ref a == Value.none) = true) from Bool.false_ne_true) (rf 1 y rfl rfl (wpAny_bind (wpAny_seqItems e d ?_))))
    simp only [Int.toNat_natCast, hx]; exact fin
where
  PyIte {c : Prop} [Decidable c] {α : Type} {a b : Sem α} {M : Model} {A : Around} {Q : α → Shared → Prop} {E : Value → Shared → Prop} {s : Shared} (hc : ¬ c) (h : wpAny M A b Q E s) : wpAny M A (if c then a else b) Q E s := by
    rw [if_neg hc]; exact h

/-- .. none left -/
theorem rise_stop {b : Bool} {it a : Addr} {i : Nat} {xs : Array Value} {Q : Fin → Shared → Prop} {B : Builtin} (hB : B = match b with | true => Builtin.«list_iterator.__next__» | false => Builtin.«tuple_iterator.__next__»)
    (hh : A.handled = none) (y : RIt b s.heap it a i) (sq : SqO b s.heap a xs) (hx : xs[i]? = none)
    (h : ∀ h' x, (∀ c o, c ≠ it → s.heap.get? c = some o → h'.get? c = some o) → (∃ o, h'.get? x = some o ∧ o.cls = .type "StopIteration") → E (.ref x) { s with heap := h' }) :
    wpAny (model prog w) A (B ⟨[.ref it], []⟩) Q E s := by
  obtain ⟨o, n, e, d⟩ := sq.ob
  subst hB
  cases b <;>
  · refine rf 0 y rfl rfl (rise_go.PyIte (show ¬ ((Value.ref a == Value.none) = true) from Bool.false_ne_true) (rf 1 y rfl rfl (wpAny_bind (wpAny_seqItems e d ?_))))
    simp only [Int.toNat_natCast, hx]; refine wpAny_bind (wpAny_rule (wpAny_bind (wpAny_setField_rec y (show 0 < 2 by decide) fun h1 _ sb => ?_)))
    exact ends hh fun h2 x k z => h h2 x (fun c o hc q => k c o ((sb.2 c hc).trans q)) z
theorem next_go {b : Bool} {it a : Addr} {i : Nat} {xs : Array Value} {x : Value} {P : Value → Shared → Prop} (y : RIt b s.heap it a i) (sq : SqO b s.heap a xs) (hx : xs[i]? = some x)
    (h : ∀ h', RIt b h' it a (i + 1) → Heap.SameBut it s.heap h' → P x { s with heap := h' }) : wpAny (model prog w) A (Builtin.SmallTypes.nextOf (.ref it)) P E s := by
  cases b
  · exact nx F.slot_tuple_iterator_next (ty y) F.entry_tuple_iterator_next (F.args_tuple_iterator_next_1 _) (rise_go (b := false) rfl y sq hx h)
  · exact nx slot_listiter_next (ty y) entry_listiter_next (args_listiter_next _) (rise_go (b := true) rfl y sq hx h)
theorem next_stop {b : Bool} {it a : Addr} {i : Nat} {xs : Array Value} {P : Value → Shared → Prop} (hh : A.handled = none) (y : RIt b s.heap it a i) (sq : SqO b s.heap a xs) (hx : xs[i]? = none)
    (h : ∀ h' x, (∀ c o, c ≠ it → s.heap.get? c = some o → h'.get? c = some o) → (∃ o, h'.get? x = some o ∧ o.cls = .type "StopIteration") → E (.ref x) { s with heap := h' }) :
    wpAny (model prog w) A (Builtin.SmallTypes.nextOf (.ref it)) P E s := by
  have inner : A.in1.handled = none := hh
  cases b
  · exact nx F.slot_tuple_iterator_next (ty y) F.entry_tuple_iterator_next (F.args_tuple_iterator_next_1 _) (rise_stop (b := false) rfl inner y sq hx h)
  · exact nx slot_listiter_next (ty y) entry_listiter_next (args_listiter_next _) (rise_stop (b := true) rfl inner y sq hx h)
theorem iter_of {b : Bool} {a : Addr} {xs : Array Value} {P : Value → Shared → Prop} (sq : SqO b s.heap a xs)
    (h : P (.ref s.heap.objs.size) { s with heap := s.heap.push { cls := .type (cN b), data := .fields #[.ref a, .int 0 0] } }) : wpAny (model prog w) A (pyIter (.ref a)) P E s := by
  cases b
  · exact wpAny_pyIter_tuple sq h
  · exact wpAny_pyIter_list sq h
end
/-- as the library's draws -/
theorem draws {prog : Program} {w : World} {A : Around} (hh : A.handled = none) (b : Bool) (it a : Addr) (xs : Array Value) (hne : a ≠ it) :
    Draws prog w A it [it, a] xs.size (fun i v => xs[i]? = some v) (fun i h => RIt b h it a i ∧ SqO b h a xs) :=
  ⟨fun _ _ st => ⟨_, st.1⟩, fun _ _ _ st k => ⟨k it List.mem_cons_self _ st.1, st.2.mv fun o e => k a (List.mem_cons_of_mem _ List.mem_cons_self) o e⟩,
    fun i s Q E hi st k => next_go st.1 st.2 (Array.getElem?_eq_getElem hi) fun h' y sb => k _ h' s.toks (Array.getElem?_eq_getElem hi) ⟨y, st.2.mv fun o e => (sb.2 a hne).trans e⟩ sb,
    fun s Q E st k => next_stop hh st.1 st.2 (by simp) fun h' x kk z => k h' x (fun c o hc q => kk c o hc q) z⟩

/-! ### enumerate -/
theorem enum_new (b : Bool) (a : Addr) (o : Obj) (xs : Array Value) :
    Meets (Builtin.«enumerate.__new__» ⟨[.type "enumerate", .ref a], []⟩) (fun _ R s => s.heap.get? a = some o ∧ SqO b s.heap a xs ∧
      R (.ok (.ret (.ref (s.heap.push { cls := .type (cN b), data := .fields #[.ref a, .int 0 0] }).objs.size)))
        { s with heap := (s.heap.push { cls := .type (cN b), data := .fields #[.ref a, .int 0 0] }).push { cls := .type "enumerate", data := .fields #[.none, .bool false, .ref s.heap.objs.size, rawInt 0, .none, .none] } }) :=
  .of_wp fun prog w A R s h => by
    obtain ⟨hp, g, d, tk, os⟩ := s; obtain ⟨ho, sq, h⟩ := h
    have sub := sub_enumerate
    have sq' : SqO b (Shared.heap ⟨hp, g, d, tk, os⟩) a xs := sq
    wp_walk using AutoSeq1.wpAny_loadPart' ho; refine wpAny_stack_any fun st => wpAny_pure ?_
    split
    case h_1 c _ _ _ _ _ =>
      cases (c == Value.type "enumerate") <;> (wp_walk using AutoSeq1.wpAny_loadPart' ho, iter_of sq'; exact ⟨_, rfl, h⟩)
    all_goals (wp_walk using AutoSeq1.wpAny_loadPart' ho, iter_of sq'; exact ⟨_, rfl, h⟩)

theorem call_enum {prog : Program} {w : World} {A : Around} {E : Value → Shared → Prop} {s : Shared} {b : Bool} {a : Addr} {xs : Array Value} {P : Value → Shared → Prop} (sq : SqO b s.heap a xs)
    (h : ∀ h' e it, s.heap.objs.size ≤ e → s.heap.objs.size ≤ it → e ≠ it → IsEnum h' e it 0 .none → RIt b h' it a 0 → (∀ c o, s.heap.get? c = some o → h'.get? c = some o) → P (.ref e) { s with heap := h' }) :
    wpAny (model prog w) A (call (.type "enumerate") [.ref a]) P E s := by
  obtain ⟨o, n, ho, _⟩ := sq.ob
  refine callType_new F.called_enumerate (by decide) (F.typeCall_enumerate_1 _) (F.newCall_enumerate_1 _) (fun obj => F.args_object_init_2 obj _) F.entry_enumerate_new (enum_new b a o xs) ⟨ho, sq, ⟨_, Heap.get?_push_size _ rfl, rfl⟩, ?_⟩
  refine h _ _ _ ?_ (Nat.le_refl _) ?_ (Heap.get?_push_size _ rfl) (Heap.get?_push_of_some _ (Heap.get?_push_size _ rfl)) fun c o e => Heap.get?_push_of_some _ (Heap.get?_push_of_some _ e)
  · rw [Heap.size_push]; exact Nat.le_succ _
  · rw [Heap.size_push]; exact Nat.succ_ne_self _

/-! ### zip of two drawn iterators -/
/-- the zip's own objects stand apart, and apart from what both draw on -/
structure Sep (z TI TO i1 i2 : Addr) (f1 f2 : List Addr) : Prop where
  all : [z, TI, TO, i1, i2].Nodup
  z1 : z ∉ f1
  t1 : TO ∉ f1
  o1 : i2 ∉ f1
  z2 : z ∉ f2
  t2 : TO ∉ f2
  o2 : i1 ∉ f2
section
variable {prog : Program} {w : World} {A : Around} {E : Value → Shared → Prop} {s : Shared} {z TI TO i1 i2 : Addr} {f1 f2 : List Addr} {n1 n2 k : Nat} {P1 P2 : Nat → Value → Prop} {S1 S2 : Nat → Heap → Prop} {a b : Value}
/-- a pair with one place written -/
theorem pair_put {x : Value} {j : Nat} {α : Type} {g : Value → Sem α} {Q : α → Shared → Prop} (hT : IsPair s.heap TO a b)
    (h : ∀ h', h'.get? TO = some { cls := .type "tuple", data := .seq ((#[a, b] : Array Value).setIfInBounds j x) } → Heap.SameBut TO s.heap h' → wpAny (model prog w) A (g x) Q E { s with heap := h' }) :
    wpAny (model prog w) A (updateSeq TO (·.setIfInBounds j x) >>= fun _ => letGo [(#[a, b] : Array Value).getD j .none] >>= fun _ => g x) Q E s :=
  wpAny_bind (wpAny_updateSeq_pair hT fun h' e sb => wpAny_bind (wpAny_letGo (h h' e sb)))
theorem zip_step (S : Sep z TI TO i1 i2 f1 f2) (D1 : Draws prog w A i1 f1 n1 P1 S1) (D2 : Draws prog w A i2 f2 n2 P2 S2) {Q : Value → Shared → Prop}
    (hz : IsZip s.heap z TI TO .none) (hI : IsPair s.heap TI (.ref i1) (.ref i2)) (hO : IsPair s.heap TO a b) (d1 : S1 k s.heap) (d2 : S2 k s.heap) (l1 : k < n1) (l2 : k < n2)
    (h : ∀ x y h' tk, P1 k x → P2 k y → IsZip h' z TI TO (rawInt s.heap.objs.size) → IsPair h' TO x y → S1 (k + 1) h' → S2 (k + 1) h' → IsPair h' s.heap.objs.size x y →
      (∀ c o, c ∉ [z, TO, i1, i2] → s.heap.get? c = some o → h'.get? c = some o) → Q (.ref s.heap.objs.size) { s with heap := h', toks := tk }) :
    wpAny (model prog w) A (Builtin.«zip.__next__» ⟨[.ref z], []⟩) (fun r s' => ∃ v, r = .done (.ret v) ∧ Q v s') E s := by
  have nd := S.all
  simp only [List.nodup_cons, List.mem_cons, List.not_mem_nil, or_false, not_or] at nd
  obtain ⟨⟨zI, zO, z1, z2⟩, ⟨IO, I1, I2⟩, ⟨O1, O2⟩, n12, _⟩ := nd
  refine rf 2 hz rfl rfl (rf 3 hz rfl rfl (wpAny_bind (wpAny_seqItems hI rfl (wpAny_bind (rf 0 hz rfl rfl (wpAny_pure ?_))))))
  simp only [if_true]
  refine wpAny_bind (wpAny_rule (rf 4 hz rfl rfl (wpAny_bind (wpAny_setField_rec hz (show 0 < 5 by decide) fun ha za sa => wpAny_bind ?_))))
  have za' : IsZip ha z TI TO .ellipsis := za; simp only [List.zipIdx_cons, List.zipIdx_nil, List.forIn_cons, List.forIn_nil]
  -- the first one is drawn, and stands in the pair
  refine wpAny_bind (wpAny_bind (wpAny_onRaise (wpAny_bind (D1.item k _ _ _ l1 (D1.frame _ _ _ d1 fun c hc o e => (sa.2 c fun q => S.z1 (q ▸ hc)).trans e) fun x hb tb px db sb => wpAny_pure ?_))))
  have Ob : IsPair hb TO a b := (sb.2 TO O1).trans ((sa.2 TO (Ne.symm zO)).trans hO)
  refine wpAny_bind (wpAny_seqItems Ob rfl (wpAny_bind (wpAny_updateSeq_pair Ob fun hc Oc sc => wpAny_bind (wpAny_letGo (wpAny_pure ?_)))))
  have Oc' : IsPair hc TO x b := Oc
  -- the second one
  have st2 : S2 k hc := D2.frame _ _ _ d2 fun c hm o e => (sc.2 c fun q => S.t2 (q ▸ hm)).trans ((sb.2 c fun q => S.o2 (q ▸ hm)).trans ((sa.2 c fun q => S.z2 (q ▸ hm)).trans e))
  refine wpAny_bind (wpAny_bind (wpAny_onRaise (wpAny_bind (D2.item k _ _ _ l2 st2 fun y hd td py dd sd => wpAny_pure ?_))))
  have Od : IsPair hd TO x b := (sd.2 TO O2).trans Oc'
  refine wpAny_bind (wpAny_seqItems Od rfl (wpAny_bind (wpAny_updateSeq_pair Od fun he Oe se => wpAny_bind (wpAny_letGo (wpAny_pure (wpAny_pure ?_))))))
  have Oe' : IsPair he TO x y := Oe
  refine wpAny_bind (wpAny_seqItems Oe' rfl (wpAny_bind (wpAny_newTuple (wpAny_bind ?_))))
  have sz : he.objs.size = s.heap.objs.size := by rw [se.1, sd.1, sc.1, sb.1, sa.1]
  have ze : IsZip he z TI TO .ellipsis := (se.2 z zO).trans ((sd.2 z z2).trans ((sc.2 z zO).trans ((sb.2 z z1).trans za')))
  have zn : he.objs.size ≠ z := Nat.ne_of_gt (Heap.lt_size ze)
  unfold Builtin.SmallTypes.ownedTupleHandOut; refine wpAny_bind (wpAny_setField_rec (Heap.get?_push_of_some _ ze) (show 0 < 5 by decide) fun hf zf sf => wpAny_setField_rec zf (show 1 < 5 by decide) fun hg zg sg => wpAny_pure ⟨_, rfl, ?_⟩)
  have up : ∀ c o, c ≠ z → he.get? c = some o → hg.get? c = some o := fun c o q e => (sg.2 c q).trans ((sf.2 c q).trans (Heap.get?_push_of_some _ e))
  have new : IsPair hg he.objs.size x y := (sg.2 _ zn).trans ((sf.2 _ zn).trans (Heap.get?_push_size _ rfl))
  have zg' : IsZip hg z TI TO (rawInt he.objs.size) := zg
  rw [sz] at new zg'
  show Q (.ref he.objs.size) _
  rw [sz]
  refine h x y hg td px py zg' (up _ _ (Ne.symm zO) Oe') ?_ ?_ new fun c o hc e => ?_
  · exact D1.frame _ _ _ db fun c hm o e => up c o (fun q => S.z1 (q ▸ hm)) ((se.2 c fun q => S.t1 (q ▸ hm)).trans ((sd.2 c fun q => S.o1 (q ▸ hm)).trans ((sc.2 c fun q => S.t1 (q ▸ hm)).trans e)))
  · exact D2.frame _ _ _ dd fun c hm o e => up c o (fun q => S.z2 (q ▸ hm)) ((se.2 c fun q => S.t2 (q ▸ hm)).trans e)
  · simp only [List.mem_cons, List.not_mem_nil, or_false, not_or] at hc
    obtain ⟨c1, c2, c3, c4⟩ := hc
    exact up c o c1 ((se.2 c c2).trans ((sd.2 c c4).trans ((sc.2 c c2).trans ((sb.2 c c3).trans ((sa.2 c c1).trans e)))))
end
end Own
end
section
set_option maxHeartbeats 4000001
namespace Own
open PySem PySem.Spec PyProof.Rows
section
variable {prog : Program} {w : World} {A : Around} {E : Value → Shared → Prop} {s : Shared} {z TI TO i1 i2 : Addr} {f1 f2 : List Addr} {n1 n2 k : Nat} {P1 P2 : Nat → Value → Prop} {S1 S2 : Nat → Heap → Prop} {a b : Value}
/-- the first one is at its end -/
theorem zip_stop (S : Sep z TI TO i1 i2 f1 f2) (D1 : Draws prog w A i1 f1 n1 P1 S1) {Q : Fin → Shared → Prop} (hz : IsZip s.heap z TI TO .none) (hI : IsPair s.heap TI (.ref i1) (.ref i2)) (d1 : S1 n1 s.heap)
    (h : ∀ h' x, (∀ c o, c ∉ [z, TO, i1, i2] → s.heap.get? c = some o → h'.get? c = some o) → (∃ o, h'.get? x = some o ∧ o.cls = .type "StopIteration") → E (.ref x) { s with heap := h' }) : wpAny (model prog w) A (Builtin.«zip.__next__» ⟨[.ref z], []⟩) Q E s := by
  have nd := S.all
  simp only [List.nodup_cons, List.mem_cons, List.not_mem_nil, or_false, not_or] at nd
  obtain ⟨⟨zI, zO, z1, z2⟩, ⟨IO, I1, I2⟩, ⟨O1, O2⟩, n12, _⟩ := nd
  refine rf 2 hz rfl rfl (rf 3 hz rfl rfl (wpAny_bind (wpAny_seqItems hI rfl (wpAny_bind (rf 0 hz rfl rfl (wpAny_pure ?_))))))
  simp only [if_true]
  refine wpAny_bind (wpAny_rule (rf 4 hz rfl rfl (wpAny_bind (wpAny_setField_rec hz (show 0 < 5 by decide) fun ha za sa => wpAny_bind ?_))))
  have za' : IsZip ha z TI TO .ellipsis := za; simp only [List.zipIdx_cons, List.zipIdx_nil, List.forIn_cons, List.forIn_nil]
  refine wpAny_bind (wpAny_bind (wpAny_onRaise (wpAny_bind (D1.done _ _ _ (D1.frame _ _ _ d1 fun c hc o e => (sa.2 c fun q => S.z1 (q ▸ hc)).trans e) fun hb x kb ⟨ox, ex, cx⟩ => ?_))))
  have zb : IsZip hb z TI TO .ellipsis := kb z _ z1 za'
  have xz : x ≠ z := fun q => by rw [q, zb] at ex; cases ex; exact absurd (show Value.type "zip" = Value.type "StopIteration" from cx) (by decide)
  refine wpAny_setField_rec zb (show 0 < 5 by decide) fun hc _ sc => h hc x (fun c o hm e => ?_) ⟨ox, (sc.2 x xz).trans ex, cx⟩
  simp only [List.mem_cons, List.not_mem_nil, or_false, not_or] at hm
  exact (sc.2 c hm.1).trans (kb c o hm.2.2.1 ((sa.2 c hm.1).trans e))
end
theorem zip_new (b1 b2 : Bool) (a1 a2 : Addr) (xs ys : Array Value) : Meets (Builtin.«zip.__new__» ⟨[.type "zip", .ref a1, .ref a2], []⟩) (fun _ R s => SqO b1 s.heap a1 xs ∧ SqO b2 s.heap a2 ys ∧
    ∀ h' z, (∃ TI TO i1 i2, [z, TI, TO, i1, i2].Nodup ∧ (∀ c ∈ [z, TI, TO, i1, i2], s.heap.objs.size ≤ c) ∧ IsZip h' z TI TO .none ∧ IsPair h' TI (.ref i1) (.ref i2) ∧ IsPair h' TO .none .none ∧ RIt b1 h' i1 a1 0 ∧ RIt b2 h' i2 a2 0) →
      (∀ c o, s.heap.get? c = some o → h'.get? c = some o) → R (.ok (.ret (.ref z))) { s with heap := h' }) :=
  .of_wp fun prog w A R s h => by
    obtain ⟨hp, g, d, tk, os⟩ := s; obtain ⟨q1, q2, h⟩ := h
    have sub := sub_zip
    have r1 : SqO b1 (Shared.heap ⟨hp, g, d, tk, os⟩) a1 xs := q1
    have r2 : SqO b2 (Shared.heap ⟨hp.push { cls := .type (cN b1), data := .fields #[.ref a1, .int 0 0] }, g, d, tk, os⟩) a2 ys := q2.mv fun o e => Heap.get?_push_of_some _ e
    wp_walk using iter_of r1, iter_of r2
    refine ⟨_, rfl, h _ _ ⟨_, _, _, _, ?_, ?_, Heap.get?_push_size _ rfl, Heap.get?_push_of_some _ (Heap.get?_push_of_some _ (Heap.get?_push_size _ rfl)), Heap.get?_push_of_some _ (Heap.get?_push_size _ rfl),
      Heap.get?_push_of_some _ (Heap.get?_push_of_some _ (Heap.get?_push_of_some _ (Heap.get?_push_of_some _ (Heap.get?_push_size _ rfl)))), Heap.get?_push_of_some _ (Heap.get?_push_of_some _ (Heap.get?_push_of_some _ (Heap.get?_push_size _ rfl)))⟩ fun c o e => ?_⟩
    · simp only [Heap.size_push, List.nodup_cons, List.mem_cons, List.not_mem_nil, or_false, not_or]
      simp <;> omega
    · simp only [Heap.size_push, List.mem_cons, List.not_mem_nil, or_false]
      intro c hc
      have : hp.objs.size ≤ c := by omega
      exact this
    · exact Heap.get?_push_of_some _ (Heap.get?_push_of_some _ (Heap.get?_push_of_some _ (Heap.get?_push_of_some _ (Heap.get?_push_of_some _ e))))
end Own
end
section
set_option maxHeartbeats 4000001
namespace L2
open PySem PySem.Spec PyProof.Rows Own
section
variable {X : Cx} {pins : List (Addr × Obj)} {σ : St} {H : Hp} {s : Shared} {h' : Heap}
/-- iterators of ours have turned (and, in the first form, a new object is laid) -/
theorem Inv.spunN {fp : List Addr} {T : Addr} {o : HO} {t' : Nat} (I : Inv X pins σ H s) (k : ∀ b o, b ∉ fp → s.heap.get? b = some o → h'.get? b = some o) (hf : ∀ b ∈ fp, FpOk X pins H b) (hT : s.heap.objs.size ≤ T)
    (new : ObjOk X.prog X.w (upd H T o) h' T o) : Inv X pins σ (upd H T o) { s with heap := h', toks := t' } := by
  have hn : H T = none := I.hok.fresh hT
  have neT : ∀ b u, s.heap.get? b = some u → b ≠ T := fun b u e => Nat.ne_of_lt (Nat.lt_of_lt_of_le (Heap.lt_size e) hT)
  have nfp : ∀ b u, H b = some u → b ∉ fp := fun b u e hb => by rw [(hf b hb).1] at e; cases e
  refine I.step (g' := s.gens) (d' := s.drawn) (ch := fp) (fun b hb => ?_) (fun b o _ _ hc e _ => k b o hc e) (fun b o _ _ hc e _ => ⟨o.slots, k b o hc e⟩) (fun b o _ e n => by rw [upd_ne (neT b o e)]; exact n)
    (fun b o hc e => ⟨o, k b o hc e⟩) (fun b xs e => by rw [upd_ne (ne_of_none e hn)]; exact e) (fun b o u e => by rw [upd_ne (ne_of_none e hn)]; exact e) (fun b ps e => ⟨#[], by rw [upd_ne (ne_of_none e hn), e]; simp⟩) (fun m hm => ?_) (fun b u e => ?_) I.bare
  · obtain ⟨f0, f1, f2, f3, f4, f5⟩ := hf b hb
    exact ⟨f3, f1, f4, f5⟩
  · obtain ⟨o, es, ep, ho, r⟩ := hm
    exact ⟨o, es, ep, k _ o (fun hb => (hf _ hb).2.1 rfl) ho, r⟩
  · by_cases hb : b = T
    · subst hb; rw [upd_same] at e; cases e; exact new
    · rw [upd_ne hb] at e
      refine (I.hok b u e).stay (fun c v hc q => k c v ?_ q) (fun c q => by rw [upd_ne (ne_of_none q hn)]; exact q) fun c xs q => by rw [upd_ne (ne_of_none q hn)]; exact q
      rcases hc with z | z
      · rw [z]; exact nfp b u e
      · exact nfp c _ z
theorem Inv.spun {fp : List Addr} {t' : Nat} (I : Inv X pins σ H s) (k : ∀ b o, b ∉ fp → s.heap.get? b = some o → h'.get? b = some o) (hf : ∀ b ∈ fp, FpOk X pins H b) : Inv X pins σ H { s with heap := h', toks := t' } := by
  have nfp : ∀ b u, H b = some u → b ∉ fp := fun b u e hb => by rw [(hf b hb).1] at e; cases e
  refine I.step (g' := s.gens) (d' := s.drawn) (ch := fp) (fun b hb => ?_) (fun b o _ _ hc e _ => k b o hc e) (fun b o _ _ hc e _ => ⟨o.slots, k b o hc e⟩) (fun b o _ e n => n)
    (fun b o hc e => ⟨o, k b o hc e⟩) (fun b xs e => e) (fun b o u e => e) (fun b ps e => ⟨#[], by rw [e]; simp⟩) (fun m hm => ?_) (fun b u e => ?_) I.bare
  · obtain ⟨f0, f1, f2, f3, f4, f5⟩ := hf b hb
    exact ⟨f3, f1, f4, f5⟩
  · obtain ⟨o, es, ep, ho, r⟩ := hm
    exact ⟨o, es, ep, k _ o (fun hb => (hf _ hb).2.1 rfl) ho, r⟩
  · refine (I.hok b u e).stay (fun c v hc q => k c v ?_ q) (fun c q => q) fun c xs q => q
    rcases hc with z | z
    · rw [z]; exact nfp b u e
    · exact nfp c _ z
end
/-- a list (true) or a tuple -/
def SqB : Bool → PySem.W.Frag → Hp → Addr → List V → Prop
  | true, K, H, a, xs => SqL K H a xs
  | false, K, H, a, xs => SqT K H a xs
section
variable {X : Cx} {pins : List (Addr × Obj)} {σ : St} {H : Hp} {s : Shared} {a c : Addr} {xs ys : List V} {b : Bool}
theorem Inv.sq (I : Inv X pins σ H s) (h : SqB b X.K H a xs) : ∃ its : List Value, Vals xs its ∧ SqO b s.heap a its.toArray := by
  cases b
  · obtain ⟨its, r, p, z⟩ := I.tuple h
    exact ⟨its, r, p⟩
  · obtain ⟨its, r, p, z⟩ := I.list h
    exact ⟨its, r, p.isList⟩
theorem Inv.sq_inj (I : Inv X pins σ H s) (h : SqB b X.K H a xs) (h' : SqB b X.K H a ys) : xs = ys := by
  cases b
  · exact I.tuple_inj h h'
  · exact I.list_inj h h'
theorem Inv.sq_ne (I : Inv X pins σ H s) (h : SqB b X.K H a xs) (f : FpOk X pins H c) : c ≠ a := by
  rintro rfl
  have inK : ∀ o, X.K.lookup c = some o → False := fun o e => by
    have e1 := I.ok.mod.kin c o e
    rcases f.2.2.2.1 with z | z
    · exact I.ok.noex c o e1 z
    · exact absurd (Nat.lt_of_lt_of_le (Heap.lt_size e1) (Nat.le_trans I.ok.bsz z)) (Nat.lt_irrefl _)
  cases b <;>
  · rcases h with (h | ⟨o, h⟩) | ⟨o, _, _, e, _⟩
    · rw [f.1] at h; cases h
    · rw [f.1] at h; cases h
    · exact inK o e
end
/-- a pair of values, laid anew -/
def Pr (v u : V) (H : Hp) (x : V) (H' : Hp) : Prop := ∃ T, H T = none ∧ x = .ref T ∧ H' = upd H T (.tup [v, u])
theorem pair_ok {P : Program} {w : World} {H : Hp} {h : Heap} {T : Addr} {v u : V} {a b : Value} (e : IsPair h T a b) (rv : RelV v a) (ru : RelV u b) : ObjOk P w (upd H T (.tup [v, u])) h T (.tup [v, u]) :=
  ⟨show 2 ≤ sizeLine by decide, [a, b], .cons rv (.cons ru .nil), ⟨_, e, rfl, _, rfl, rfl⟩⟩
/-- (i, x) -/
def Ite (K : PySem.W.Frag) (b : Bool) (a : Addr) : It :=
  ⟨fun i H => ∃ xs x, SqB b K H a xs ∧ xs[i]? = some x, fun i H x H' => ∃ y, (∀ xs, SqB b K H a xs → xs[i]? = some y) ∧ Pr (.int i) y H x H', fun i H => ∃ xs, SqB b K H a xs ∧ xs.length = i⟩
theorem turn_enum {P : Program} {w : World} {K : PySem.W.Frag} {es : List Expr} {k1} {p1 : Pos} (b : Bool) (a e it : Addr) (hne : e ≠ it) : Turn P w K (.Tuple es k1 p1) (Ite K b a) [e, it] e (fun i h => (∃ old, IsEnum h e it i old) ∧ RIt b h it a i) where
  mem := List.mem_cons_self
  obj := fun i h ⟨⟨old, he⟩, hi⟩ c hc => by
    rcases List.mem_cons.mp hc with q | q
    · rw [q]; exact ⟨_, he, fun v z => by cases z⟩
    · rw [List.mem_singleton.mp q]; exact ⟨_, hi, fun v z => by cases z⟩
  keep := fun i h h' ⟨⟨old, he⟩, hi⟩ kk => ⟨⟨old, kk e (by simp) _ he⟩, kk it (by simp) _ hi⟩
  item := by
    intro X hP hw hK hc i pins s σ H E I hf ⟨⟨old, he⟩, hi⟩ ⟨xs, x, hq, hx⟩
    subst hP hw hK
    obtain ⟨its, rv, p⟩ := I.sq hq
    obtain ⟨u, hu, ru⟩ := rv.get hx
    have hlt : i < its.toArray.size := by simpa using (List.getElem?_eq_some_iff.mp hu).1
    refine wpAny_pyNext_enum_itemD (draws (prog := X.prog) (w := X.w) (A := X.A.in1) (I.ok.hd hc) b it a its.toArray (p.ne hi)) he ⟨hi, p⟩ hlt hne (by simp [hne, I.sq_ne hq (hf e (by simp))]) fun v h1 tk hv ho hs hT _ hk => ?_
    obtain rfl : u = v := Option.some.inj (hu.symm.trans (by simpa using hv))
    refine ⟨_, rfl, wpAny_letOwnedTupleGo_enum ho fun h2 he2 s2 => ?_⟩
    have nT : s.heap.objs.size ≠ e := Nat.ne_of_gt (Heap.lt_size he)
    have nI : s.heap.objs.size ≠ it := Nat.ne_of_gt (Heap.lt_size hi)
    refine ⟨.ref s.heap.objs.size, _, I.spunN (fp := [e, it]) (fun c o hm q => ?_) hf (Nat.le_refl _) (pair_ok (v := .int i) (u := x) ((s2.2 _ nT).trans hT) ⟨tk, rfl⟩ ru), rfl, ⟨x, fun ys hy => by rw [I.sq_inj hy hq]; exact hx, _, I.fresh, rfl, rfl⟩, ⟨⟨_, he2⟩, (s2.2 it (Ne.symm hne)).trans hs.1⟩, fun c hm => ?_⟩
    · have c1 : c ≠ e := fun z => hm (by simp [z])
      exact (s2.2 c c1).trans (hk c o c1 (fun z => hm (by simp [z])) q)
    · rw [upd_ne, (hf c hm).1]
      rintro rfl
      rcases List.mem_cons.mp hm with z | z
      · exact nT z
      · exact nI (List.mem_singleton.mp z)
  done := by
    intro X hP hw hK hc i pins s σ H E I hf ⟨⟨old, he⟩, hi⟩ ⟨xs, hq, hx⟩
    subst hP hw hK
    obtain ⟨its, rv, p⟩ := I.sq hq
    have hz : i = its.toArray.size := by rw [List.size_toArray, ← rv.length, hx]
    refine wpAny_pyNext_enum_endD (draws (prog := X.prog) (w := X.w) (A := X.A.in1) (I.ok.hd hc) b it a its.toArray (p.ne hi)) he ⟨by rw [← hz]; exact hi, p⟩ fun h' eb => ⟨rfl, I.spun (t' := s.toks) (fp := [e, it]) (fun c o hm q => eb c o (fun z => hm (by simp [z])) q) hf⟩
  self := fun _ _ _ _ _ ⟨⟨_, he⟩, _⟩ h => wpAny_pyIter_enum he h
def iEnum (K : PySem.W.Frag) (b : Bool) (ta : TA) : TI := fun σ H R => ta σ H fun vs H1 => ∃ a xs, vs = [.ref a] ∧ SqB b K H1 a xs ∧ R (Ite K b a) H1
theorem pi_enum {X : Cx} {a : Expr} {ta : TA} {p pos p1 : Pos} {es : List Expr} {k1} (b : Bool) (hg : Gl X "enumerate") (hm : X.mg "enumerate" = none) (ha : PA X [a] ta) (hs : starEach [a] X.env = [(false, eval a X.env)] := by rfl) :
    PI X (.Tuple es k1 p1) (.Call (.Name "enumerate" p) [a] [] pos) (iEnum X.K b ta) := by
  intro pins s σ H R I h
  refine Call_ (ld_blt I hg hm (u := .type "enumerate") (by rfl) (PyProof.Rows.callWith_type1 (thn (ha pos pins s σ H _ I h) fun us s1 ⟨vs, H1, I1, r1, q1⟩ => ?_) hs rfl))
  obtain ⟨a', xs, rfl, hq, q⟩ := q1
  obtain ⟨u, rfl, ru⟩ := r1.one
  cases ru
  obtain ⟨its, rv, pl⟩ := I1.sq hq
  refine call_enum pl fun h' e it l1 l2 ne he hi hk => wpAny_pyIter_enum he ⟨_, [e, it], _, _, H1, rfl, I1.kept (t' := s1.toks) hk, turn_enum b a' e it ne, ⟨⟨_, he⟩, hi⟩, fun c hc => ?_, q⟩
  have hc' : s1.heap.objs.size ≤ c := by
    rcases List.mem_cons.mp hc with z | z
    · rw [z]; exact l1
    · rw [List.mem_singleton.mp z]; exact l2
  exact I1.fpOk hc' (I1.hok.fresh hc')
/-- (x, y) -/
def Itz (K : PySem.W.Frag) (b1 b2 : Bool) (a1 a2 : Addr) : It :=
  ⟨fun i H => ∃ xs ys x y, SqB b1 K H a1 xs ∧ SqB b2 K H a2 ys ∧ xs[i]? = some x ∧ ys[i]? = some y, fun i H v H' => ∃ x y, (∀ xs, SqB b1 K H a1 xs → xs[i]? = some x) ∧ (∀ ys, SqB b2 K H a2 ys → ys[i]? = some y) ∧ Pr x y H v H',
   fun i H => ∃ xs, SqB b1 K H a1 xs ∧ xs.length = i⟩
theorem turn_zip {P : Program} {w : World} {K : PySem.W.Frag} {es : List Expr} {k1} {p1 : Pos} (b1 b2 : Bool) (a1 a2 z TI TO i1 i2 : Addr) (nd : [z, TI, TO, i1, i2].Nodup) :
    Turn P w K (.Tuple es k1 p1) (Itz K b1 b2 a1 a2) [z, TI, TO, i1, i2] z (fun i h => IsZip h z TI TO .none ∧ IsPair h TI (.ref i1) (.ref i2) ∧ (∃ a b, IsPair h TO a b) ∧ RIt b1 h i1 a1 i ∧ RIt b2 h i2 a2 i) where
  mem := List.mem_cons_self
  obj := fun i h ⟨hz, hI, ⟨a, b, hO⟩, h1, h2⟩ c hc => by
    simp only [List.mem_cons, List.not_mem_nil, or_false] at hc
    rcases hc with rfl | rfl | rfl | rfl | rfl
    · exact ⟨_, hz, fun v q => by cases q⟩
    · exact ⟨_, hI, fun v q => by cases q⟩
    · exact ⟨_, hO, fun v q => by cases q⟩
    · exact ⟨_, h1, fun v q => by cases q⟩
    · exact ⟨_, h2, fun v q => by cases q⟩
  keep := fun i h h' ⟨hz, hI, ⟨a, b, hO⟩, h1, h2⟩ kk => ⟨kk z (by simp) _ hz, kk TI (by simp) _ hI, ⟨a, b, kk TO (by simp) _ hO⟩, kk i1 (by simp) _ h1, kk i2 (by simp) _ h2⟩
  item := by
    intro X hP hw hK hc i pins s σ H E I hf ⟨hz, hI, ⟨a, b, hO⟩, h1, h2⟩ ⟨xs, ys, x, y, q1, q2, hx, hy⟩
    subst hP hw hK
    obtain ⟨u1, r1, p1⟩ := I.sq q1
    obtain ⟨u2, r2, p2⟩ := I.sq q2
    obtain ⟨v1, e1, rx⟩ := r1.get hx
    obtain ⟨v2, e2, ry⟩ := r2.get hy
    have nd' := nd
    simp only [List.nodup_cons, List.mem_cons, List.not_mem_nil, or_false, not_or] at nd'
    obtain ⟨⟨zI, zO, z1, z2⟩, ⟨IO, I1, I2⟩, ⟨O1, O2⟩, n12, _⟩ := nd'
    have na1 : ∀ c ∈ [z, TI, TO, i1, i2], c ≠ a1 := fun c hm => I.sq_ne q1 (hf c hm)
    have na2 : ∀ c ∈ [z, TI, TO, i1, i2], c ≠ a2 := fun c hm => I.sq_ne q2 (hf c hm)
    have S : Sep z TI TO i1 i2 [i1, a1] [i2, a2] := ⟨nd, by simp [z1, na1 z (by simp)], by simp [O1, na1 TO (by simp)], by simp [Ne.symm n12, na1 i2 (by simp)], by simp [z2, na2 z (by simp)], by simp [O2, na2 TO (by simp)], by simp [n12, na2 i1 (by simp)]⟩
    have hd := I.ok.hd hc
    have D1 := draws (prog := X.prog) (w := X.w) (A := X.A.in1) hd b1 i1 a1 u1.toArray (p1.ne h1)
    have D2 := draws (prog := X.prog) (w := X.w) (A := X.A.in1) hd b2 i2 a2 u2.toArray (p2.ne h2)
    have tyz : s.TypeIs (.ref z) "zip" := ⟨_, hz, rfl⟩
    unfold pyNext
    refine wpAny_bind (wpAny_attempt (wpAny_callSpecial?_slot (name := "__next__") tyz F.slot_zip_next (wpAny_call_entry F.slot_zip_next tyz F.entry_zip_next (zip_step S D1 D2 hz hI hO ⟨h1, p1⟩ ⟨h2, p2⟩ (by simpa using (List.getElem?_eq_some_iff.mp e1).1) (by simpa using (List.getElem?_eq_some_iff.mp e2).1)
      fun w1 w2 h' tk hw1 hw2 zh Oh d1 d2 new hk => wpAny_pure ?_) (F.args_zip_next_1 _))))
    obtain rfl : v1 = w1 := Option.some.inj (e1.symm.trans (by simpa using hw1))
    obtain rfl : v2 = w2 := Option.some.inj (e2.symm.trans (by simpa using hw2))
    refine ⟨_, rfl, wpAny_letOwnedTupleGo_zip zh fun h3 z3 s3 => ?_⟩
    have nz : s.heap.objs.size ≠ z := Nat.ne_of_gt (Heap.lt_size hz)
    have far : ∀ c ∈ [z, TI, TO, i1, i2], c ≠ s.heap.objs.size := fun c hm => by
      simp only [List.mem_cons, or_false, List.not_mem_nil] at hm
      rcases hm with rfl | rfl | rfl | rfl | rfl
      · exact Nat.ne_of_lt (Heap.lt_size hz)
      · exact Nat.ne_of_lt (Heap.lt_size hI)
      · exact Nat.ne_of_lt (Heap.lt_size hO)
      · exact Nat.ne_of_lt (Heap.lt_size h1)
      · exact Nat.ne_of_lt (Heap.lt_size h2)
    refine ⟨.ref s.heap.objs.size, _, I.spunN (fp := [z, TI, TO, i1, i2]) (fun c o hm q => ?_) hf (Nat.le_refl _) (pair_ok ((s3.2 _ nz).trans new) rx ry), rfl, ⟨x, y, fun l hl => by rw [I.sq_inj hl q1]; exact hx, fun l hl => by rw [I.sq_inj hl q2]; exact hy, _, I.fresh, rfl, rfl⟩,
      ⟨z3, (s3.2 _ (Ne.symm zI)).trans (hk TI _ (by simp [Ne.symm zI, IO, I1, I2]) hI), ⟨_, _, (s3.2 _ (Ne.symm zO)).trans Oh⟩, (s3.2 _ (Ne.symm z1)).trans d1.1, (s3.2 _ (Ne.symm z2)).trans d2.1⟩, fun c hm => by rw [upd_ne (far c hm), (hf c hm).1]⟩
    simp only [List.mem_cons, List.not_mem_nil, or_false, not_or] at hm
    exact (s3.2 c hm.1).trans (hk c o (by simp [hm]) q)
  done := by
    intro X hP hw hK hc i pins s σ H E I hf ⟨hz, hI, ⟨a, b, hO⟩, h1, h2⟩ ⟨xs, q1, hx⟩
    subst hP hw hK
    obtain ⟨u1, r1, p1⟩ := I.sq q1
    have nd' := nd
    simp only [List.nodup_cons, List.mem_cons, List.not_mem_nil, or_false, not_or] at nd'
    obtain ⟨⟨zI, zO, z1, z2⟩, ⟨IO, I1, I2⟩, ⟨O1, O2⟩, n12, _⟩ := nd'
    have na1 : ∀ c ∈ [z, TI, TO, i1, i2], c ≠ a1 := fun c hm => I.sq_ne q1 (hf c hm)
    have S : Sep z TI TO i1 i2 [i1, a1] [i2] := ⟨nd, by simp [z1, na1 z (by simp)], by simp [O1, na1 TO (by simp)], by simp [Ne.symm n12, na1 i2 (by simp)], by simp [z2], by simp [O2], by simp [n12]⟩
    have hsz : i = u1.toArray.size := by rw [List.size_toArray, ← r1.length, hx]
    have tyz : s.TypeIs (.ref z) "zip" := ⟨_, hz, rfl⟩
    unfold pyNext
    refine wpAny_bind (wpAny_attempt (wpAny_callSpecial?_slot (name := "__next__") tyz F.slot_zip_next (wpAny_call_entry F.slot_zip_next tyz F.entry_zip_next
      (zip_stop S (draws (prog := X.prog) (w := X.w) (A := X.A.in1) (I.ok.hd hc) b1 i1 a1 u1.toArray (p1.ne h1)) hz hI ⟨by rw [← hsz]; exact h1, p1⟩ fun h' x hk ⟨o, eo, co⟩ => ?_) (F.args_zip_next_1 _))))
    refine wpAny_bind (wpAny_isInstance (T := "StopIteration") (b := true) ⟨o, eo, co⟩ isSubtype_stop (wpAny_pure ⟨rfl, I.spun (t' := s.toks) (fp := [z, TI, TO, i1, i2]) (fun c o hm q => hk c o ?_ q) hf⟩))
    simp only [List.mem_cons, List.not_mem_nil, or_false, not_or] at hm ⊢
    exact ⟨hm.1, hm.2.2.1, hm.2.2.2.1, hm.2.2.2.2⟩
  self := fun _ _ _ _ _ st h => wpAny_pyIter_zip st.1 h
def iZip (K : PySem.W.Frag) (b1 b2 : Bool) (ta : TA) : TI := fun σ H R => ta σ H fun vs H1 => ∃ a1 a2 xs ys, vs = [.ref a1, .ref a2] ∧ SqB b1 K H1 a1 xs ∧ SqB b2 K H1 a2 ys ∧ R (Itz K b1 b2 a1 a2) H1
theorem pi_zip {X : Cx} {a b : Expr} {ta : TA} {p pos p1 : Pos} {es : List Expr} {k1} (b1 b2 : Bool) (hg : Gl X "zip") (hm : X.mg "zip" = none) (ha : PA X [a, b] ta) (hs : starEach [a, b] X.env = [(false, eval a X.env), (false, eval b X.env)] := by rfl) (hs2 : starEach [b] X.env = [(false, eval b X.env)] := by rfl) :
    PI X (.Tuple es k1 p1) (.Call (.Name "zip" p) [a, b] [] pos) (iZip X.K b1 b2 ta) := by
  intro pins s σ H R I h
  refine Call_ (ld_blt I hg hm (u := .type "zip") (by rfl) (PyProof.Rows.callWith_type1 (thn (ha pos pins s σ H _ I h) fun us s1 ⟨vs, H1, I1, r1, q1⟩ => ?_) (by rw [hs, hs2]) (by rw [hs2]; rfl)))
  obtain ⟨a1, a2, xs, ys, rfl, hq1, hq2, q⟩ := q1
  obtain ⟨u, v, rfl, ru, rv⟩ := r1.two
  cases ru
  cases rv
  obtain ⟨its, _, pl1⟩ := I1.sq hq1
  obtain ⟨jts, _, pl2⟩ := I1.sq hq2
  refine callType_new F.called_zip (by decide) (F.typeCall_zip_2 _ _) (F.newCall_zip_2 _ _) (fun obj => F.args_object_init_3 obj _ _) F.entry_zip_new (zip_new b1 b2 a1 a2 its.toArray jts.toArray) ⟨pl1, pl2, fun h' z ⟨TI, TO, i1, i2, nd, far, hz, hI, hO, h1, h2⟩ hk => ⟨⟨_, hz, rfl⟩, ?_⟩⟩
  exact wpAny_pyIter_zip hz ⟨_, [z, TI, TO, i1, i2], _, _, H1, rfl, I1.kept (t' := s1.toks) hk, turn_zip b1 b2 a1 a2 z TI TO i1 i2 nd, ⟨hz, hI, ⟨_, _, hO⟩, h1, h2⟩, fun c hc => I1.fpOk (far c hc) (I1.hok.fresh (far c hc)), q⟩
end L2
end
section
set_option maxHeartbeats 4000001
namespace L2
open PySem PySem.Spec PyProof.Rows Own
section
variable {X : Cx}
/-! ### products of two wide numbers -/
def CMulW (i j : Int) : Prop := i.natAbs < 2 ^ 20000 ∧ j.natAbs < 2 ^ 20000
theorem bits_le {k : Int} {n : Nat} (h : k.natAbs < 2 ^ n) (hn : 0 < n) : Builtin.Int.intBits k ≤ n := by
  unfold Builtin.Int.intBits
  split
  · exact Nat.zero_le _
  · rename_i hk
    have : Nat.log2 k.natAbs < n := (Nat.log2_lt (fun e => hk (by simp [Int.natAbs_eq_zero.mp e]))).mpr h
    omega
theorem CMulW.ok {i j : Int} (h : CMulW i j) : IntMulOk i j := by
  have h1 := bits_le h.1 (by decide)
  have h2 := bits_le h.2 (by decide)
  have big : Builtin.Int.intTooBig (Builtin.Int.intBits i + Builtin.Int.intBits j) = false := by
    have line : (40000 : Nat) ≤ bitsLine := by decide
    unfold Builtin.Int.intTooBig
    simp
    omega
  unfold IntMulOk
  rw [big]; simp
theorem op_mulW : OpR X (binaryOp .Mult) (rI CMulW fun i j => .int (i * j)) := opI fun _ _ _ _ _ _ _ hc q => mul_int q hc.ok
/-! ### sum, all -/
theorem walkB {prog : Program} {w : World} {A : Around} (hh : A.handled = none) (b : Bool) (I a : Addr) (hne : a ≠ I) (xs : Array Value) :
    Walks prog w A I [I, a] [I] xs.size (fun i v => xs[i]? = some v) (fun i h => (match b with | true => h.IsListIter I a i | false => h.IsTupleIter I a i) ∧ SqO b h a xs) := by
  cases b
  · exact Walks.tuple hh I a hne xs
  · exact Walks.list hh I a hne xs
theorem preSum_list (ns : List Int) : ∀ n, n ≤ ns.length → preSum (fun i => ns.getD i 0) n = (ns.take n).sum
  | 0, _ => by simp [preSum]
  | n + 1, h => by
    have e : ns[n]? = some ns[n] := List.getElem?_eq_getElem h
    rw [preSum, preSum_list ns n (Nat.le_of_lt h), List.take_add_one, List.sum_append, e, List.getD_eq_getElem?_getD, e]
    simp
theorem call_sumB (hc : X.calm = true) (b : Bool) : CallR X (.builtin "sum") (fun vs H Q => ∃ a ns, vs = [.ref a] ∧ SqB b X.K H a (List.map V.int ns) ∧ Q (.int ns.sum) H) := by
  intro pins s σ H vs us Q I rv h
  obtain ⟨a, ns, rfl, hq, q⟩ := h
  obtain ⟨u, rfl, ru⟩ := rv.one
  cases ru
  obtain ⟨its, r, p⟩ := I.sq hq
  have hne : a ≠ s.heap.objs.size := by
    obtain ⟨o, n, e, _⟩ := p.ob
    exact Nat.ne_of_lt (Heap.lt_size e)
  have hl : its.length = ns.length := by rw [← r.length, List.length_map]
  refine call_sum_walkG (iter_of p ⟨s.heap.objs.size, [s.heap.objs.size, a], [s.heap.objs.size], _, _, _, fun i => ns.getD i 0, rfl, walkB (show X.A.in1.handled = none from I.ok.hd hc) b _ a hne its.toArray, ?_, ?_, ?_, ?_⟩)
  · refine ⟨?_, p.mv fun o e => Heap.get?_push_of_some _ e⟩
    cases b <;> exact ⟨_, Heap.get?_push_size _ rfl, rfl, rfl⟩
  · intro c hm
    show c < (s.heap.push _).objs.size
    rw [Heap.size_push]
    rcases List.mem_cons.mp hm with z | z
    · rw [z]; exact Nat.lt_succ_self _
    · rw [List.mem_singleton.mp z]
      obtain ⟨o, n, e, _⟩ := p.ob
      exact Nat.lt_succ_of_lt (Heap.lt_size e)
  · intro i v hv
    have hv' : its[i]? = some v := by simpa using hv
    have hi := (List.getElem?_eq_some_iff.mp hv').1
    have e : (List.map V.int ns)[i]? = some (V.int (ns.getD i 0)) := by
      rw [List.getElem?_map, List.getD_eq_getElem?_getD, List.getElem?_eq_getElem (by omega)]
      rfl
    obtain ⟨u', e', ⟨t, rfl⟩⟩ := r.get e
    rw [hv'] at e'
    exact ⟨t, Option.some.inj e'⟩
  · intro h' tk t' hk
    refine ⟨.int ns.sum, H, I.kept (t' := tk) fun c o e => hk c o ?_ (Heap.get?_push_of_some _ e), ⟨t', ?_⟩, q⟩
    · exact fun z => Nat.ne_of_lt (Heap.lt_size e) (List.mem_singleton.mp z)
    · rw [List.size_toArray, hl, preSum_list ns _ (Nat.le_refl _), List.take_length]
theorem call_allB (hc : X.calm = true) (b : Bool) : CallR X (.builtin "all") (fun vs H Q => ∃ a bs, vs = [.ref a] ∧ SqB b X.K H a (List.map V.bl bs) ∧ Q (.bl (bs.all id)) H) := by
  intro pins s σ H vs us Q I rv h
  obtain ⟨a, bs, rfl, hq, q⟩ := h
  obtain ⟨u, rfl, ru⟩ := rv.one
  cases ru
  obtain ⟨its, r, p⟩ := I.sq hq
  have hne : a ≠ s.heap.objs.size := by
    obtain ⟨o, n, e, _⟩ := p.ob
    exact Nat.ne_of_lt (Heap.lt_size e)
  have hl : its.length = bs.length := by rw [← r.length, List.length_map]
  refine call_all_walk (iter_of p ⟨s.heap.objs.size, [s.heap.objs.size, a], [s.heap.objs.size], _, _, _, fun i => bs.getD i true, rfl, walkB (show X.A.in1.handled = none from I.ok.hd hc) b _ a hne its.toArray, ?_, ?_, ?_⟩)
  · refine ⟨?_, p.mv fun o e => Heap.get?_push_of_some _ e⟩
    cases b <;> exact ⟨_, Heap.get?_push_size _ rfl, rfl, rfl⟩
  · intro i v s' Q' E' hv hQ
    have hv' : its[i]? = some v := by simpa using hv
    have hi := (List.getElem?_eq_some_iff.mp hv').1
    have e : (List.map V.bl bs)[i]? = some (V.bl (bs.getD i true)) := by
      rw [List.getElem?_map, List.getD_eq_getElem?_getD, List.getElem?_eq_getElem (by omega)]
      rfl
    obtain ⟨u', e', ru⟩ := r.get e
    rw [hv'] at e'
    obtain rfl := Option.some.inj e'
    obtain rfl : v = Value.bool (bs.getD i true) := ru
    exact wpAny_truthy_bool hQ
  · intro h' tk hk
    refine ⟨.bl (bs.all id), H, I.kept (t' := tk) fun c o e => hk c o ?_ (Heap.get?_push_of_some _ e), ?_, q⟩
    · exact fun z => Nat.ne_of_lt (Heap.lt_size e) (List.mem_singleton.mp z)
    · show Value.bool _ = Value.bool _
      congr 1
      rw [List.size_toArray, hl, Bool.eq_iff_iff, List.all_eq_true, List.all_eq_true]
      constructor
      · intro h x hx
        obtain ⟨j, hj, e⟩ := List.getElem_of_mem hx
        have at_j := h j (List.mem_range.mpr hj)
        rw [List.getD_eq_getElem?_getD, List.getElem?_eq_getElem hj] at at_j
        rw [← e]; exact at_j
      · intro h j hj
        rw [List.getD_eq_getElem?_getD, List.getElem?_eq_getElem (List.mem_range.mp hj)]
        exact h _ (List.getElem_mem _)
/-! ### isinstance(x, a builtin class) -/
theorem call_isi : CallR X (.builtin "isinstance") (fun vs H Q => ∃ x T t k, vs = [x, .ty T] ∧ TyOf X.K H x t ∧ PySem.W.kitOne X.K t (.type T) = some k ∧ Q (.bl k) H) := by
  intro pins s σ H vs us Q I rv h
  obtain ⟨x, T, t, k, rfl, ht, hk, q⟩ := h
  obtain ⟨u, v, rfl, ru, rv'⟩ := rv.two
  cases (show v = Value.type T from rv')
  exact isinst_ok I ru ht hk fun tk => ⟨.bl k, H, I.tok tk, rfl, q⟩
/-! ### != of two tuples of flat things -/
def rNeT (K : PySem.W.Frag) : R2 := fun x y H Q => ∃ a b xs ys, x = .ref a ∧ y = .ref b ∧ SqT K H a xs ∧ SqT K H b ys ∧ xs.all flatV = true ∧ ys.all flatV = true ∧ Q (.bl (!((List.range (min xs.length ys.length)).all (fun j => eqV (xs.getD j .non) (ys.getD j .non)) && xs.length == ys.length))) H
theorem op_neT (hu : X.A.units < cLine) : OpR X (compareOp .NotEq) (rNeT X.K) := by
  intro pins s σ H x y v u Q I rx ry h
  obtain ⟨a, b, xs, ys, rfl, rfl, ha, hb, fa, fb, q⟩ := h
  cases rx
  cases ry
  obtain ⟨its, r1, p1, _⟩ := I.tuple ha
  obtain ⟨jts, r2, p2, _⟩ := I.tuple hb
  have l1 := r1.length
  have l2 := r2.length
  refine SeqAt.RcNeAt.tuples (e := fun j => eqV (xs.getD j .non) (ys.getD j .non)) p1 p2 hu (fun j h1 h2 => ?_) X.prog X.w _ _ ?_
  · have h1' : j < xs.length := by simpa [l1] using h1
    have h2' : j < ys.length := by simpa [l2] using h2
    obtain ⟨w1, e1, q1⟩ := r1.get (List.getElem?_eq_getElem h1')
    obtain ⟨w2, e2, q2⟩ := r2.get (List.getElem?_eq_getElem h2')
    have g1 : its.toArray[j] = w1 := by
      have := (List.getElem?_eq_some_iff.mp e1).2
      simpa using this
    have g2 : jts.toArray[j] = w2 := by
      have := (List.getElem?_eq_some_iff.mp e2).2
      simpa using this
    rw [g1, g2, List.getD_eq_getElem?_getD, List.getD_eq_getElem?_getD, List.getElem?_eq_getElem h1', List.getElem?_eq_getElem h2']
    exact eqAt_V q1 q2 (List.all_eq_true.mp fa _ (List.getElem_mem h1')) (List.all_eq_true.mp fb _ (List.getElem_mem h2'))
  · rw [List.size_toArray, List.size_toArray, ← l1, ← l2]
    exact ⟨.bl _, H, I, rfl, q⟩
theorem all_eq (ns ms : List Int) : ((List.range (min (ns.map V.int).length (ms.map V.int).length)).all (fun j => eqV ((ns.map V.int).getD j .non) ((ms.map V.int).getD j .non)) && (ns.map V.int).length == (ms.map V.int).length) = decide (ns = ms) := by
  rw [Bool.eq_iff_iff, Bool.and_eq_true, List.all_eq_true, decide_eq_true_iff, beq_iff_eq, List.length_map, List.length_map]
  have at' : ∀ (l : List Int) (j : Nat) (h : j < l.length), (l.map V.int).getD j .non = .int l[j] := fun l j h => by
    rw [List.getD_eq_getElem?_getD, List.getElem?_map, List.getElem?_eq_getElem h]; rfl
  constructor
  · rintro ⟨h, e⟩
    refine List.ext_getElem e fun j h1 h2 => ?_
    have := h j (List.mem_range.mpr (by omega))
    rw [at' ns j h1, at' ms j h2] at this
    simpa [eqV] using this
  · rintro rfl
    refine ⟨fun j hj => ?_, rfl⟩
    have hj' : j < ns.length := by have := List.mem_range.mp hj; omega
    rw [at' ns j hj']
    simp [eqV]
theorem flat_ints (ns : List Int) : (ns.map V.int).all flatV = true := by
  rw [List.all_map, List.all_eq_true]; intro _ _; rfl
end
example (K : PySem.W.Frag) : PySem.W.kitOne K (.type "int") (.type "tuple") = some false := by rfl
example (K : PySem.W.Frag) : PySem.W.kitOne K (.type "int") (.type "bool") = some false := by first | rfl | decide | (with_unfolding_all rfl)
end L2
end
section
set_option maxHeartbeats 4000001
namespace L2
open PySem PySem.Spec PyProof.Rows Own
theorem same_new {H : Hp} {p : Addr} (h : H p = none) (o : HO) : Same H (upd H p o) := fun b u q => by rw [upd_ne (ne_of_none q h)]; exact q
theorem Same.tupSq {K : PySem.W.Frag} {H H' : Hp} {a : Addr} {xs : List V} (e : Same H H') (h : SqT K H a xs) : SqT K H' a xs := by
  rcases h with (h | ⟨o, h⟩) | h
  · exact .inl (.inl (e _ _ h))
  · exact .inl (.inr ⟨o, e _ _ h⟩)
  · exact .inr h
theorem Same.sqB {K : PySem.W.Frag} {H H' : Hp} {a : Addr} {xs : List V} {b : Bool} (e : Same H H') (h : SqB b K H a xs) : SqB b K H' a xs := by
  cases b
  · exact e.tupSq h
  · exact e.seq h
/-- CapOk by reckoning -/
def capB (N N' : List Str) (sc scope : Scope) (cap : List (Option Nat)) : Bool :=
  decide (scope.kind = .function) && (scope.names.all fun y => decide (y.2 ≠ .cell) && (decide (y.2 ≠ .local) || decide (scope.names.lookup y.1 = some .local)) &&
    (decide (y.2 ≠ .free) || (decide (sc.names.lookup y.1 = some .cell) || decide (sc.names.lookup y.1 = some .free)))) && decide (cap.length = N'.length) &&
  ((N'.zip cap).all fun p => match p.2 with
    | none => true
    | some i => decide (N[i]? = some p.1) && (decide (scope.names.lookup p.1 = some .free) && (decide (sc.names.lookup p.1 = some .cell) || decide (sc.names.lookup p.1 = some .free))))
theorem CapOk.of {N N' : List Str} {sc scope : Scope} {cap : List (Option Nat)} (h : capB N N' sc scope cap = true) : CapOk N N' sc scope cap := by
  unfold capB at h
  simp only [Bool.and_eq_true, List.all_eq_true, Bool.or_eq_true, decide_eq_true_eq] at h
  obtain ⟨⟨⟨h1, h2⟩, h3⟩, h4⟩ := h; refine ⟨h1, fun y hy => (h2 y hy).1.1, fun y hy e => ?_, fun y hy e => ?_, h3, fun p hp i e => ?_⟩
  · rcases (h2 y hy).1.2 with z | z
    · exact absurd e z
    · exact z
  · rcases (h2 y hy).2 with z | z
    · exact absurd e z
    · exact z
  · have q := h4 p hp
    rw [e] at q
    simp only [Bool.and_eq_true, Bool.or_eq_true, decide_eq_true_eq] at q
    exact q
/-- the next turn of n -/
def Nx (n i : Nat) (p : Prop) : Prop := ∃ m', m' < n - i ∧ m' = n - (i + 1) ∧ i + 1 ≤ n ∧ p
theorem nx {n i : Nat} {p : Prop} (h : i < n) (q : p) : Nx n i p := ⟨n - (i + 1), by omega, rfl, h, q⟩
/-- [e for x in range(..)], no test: Pv by the turn, the list so far, the block's slots, the heap -/
theorem lc_range {lo : Int} {n : Nat} {g : TG} {te : TE} {l : Addr} {σ : St} {H : Hp} {Q : VK} (Pv : Nat → List V → St → Hp → Prop) (h0 : Pv 0 [] σ H) (hl : ∀ i acc σ H, Pv i acc σ H → H l = some (.lst acc))
    (hs : ∀ i acc σ H, i < n → Pv i acc σ H → g (.int (lo + i)) σ H fun σ3 H3 => te σ3 H3 fun y H5 => H5 l = some (.lst acc) ∧ acc.length < sizeLine ∧ Nx n i (Pv (i + 1) (acc ++ [y]) σ3 (upd H5 l (.lst (acc ++ [y])))))
    (hd : ∀ acc σ H, Pv n acc σ H → Q (.ref l) H) : ∃ W : Nat → Nat → List V → St → Hp → Prop, (∃ m, W 0 m [] σ H) ∧ LCW (Itr lo n) g tYes te l Q W := by
  refine ⟨fun i m acc σ H => m = n - i ∧ i ≤ n ∧ Pv i acc σ H, ⟨n, by simp, Nat.zero_le _, h0⟩, ?_⟩
  rintro i m acc σ H ⟨rfl, hi, p⟩
  refine ⟨hl i acc σ H p, ?_⟩
  by_cases hlt : i < n
  · refine .inr ⟨hlt, fun x H2 ⟨e, y⟩ => ?_⟩
    subst e y
    exact hs i acc σ _ hlt p
  · have e : i = n := by omega
    subst e
    exact .inl ⟨Nat.le_refl _, hd acc σ H p⟩
/-- [e for x, y in zip(xs, ys)], rows of one length -/
theorem lc_zip {K : PySem.W.Frag} {b1 b2 : Bool} {a1 a2 : Addr} {xs ys : List V} (hxy : xs.length = ys.length) {g : TG} {te : TE} {l : Addr} {σ : St} {H : Hp} {Q : VK} (Pv : Nat → List V → St → Hp → Prop) (h0 : Pv 0 [] σ H)
    (hl : ∀ i acc σ H, Pv i acc σ H → H l = some (.lst acc) ∧ SqB b1 K H a1 xs ∧ SqB b2 K H a2 ys)
    (hs : ∀ i acc σ H x y T, xs[i]? = some x → ys[i]? = some y → H T = none → Pv i acc σ H → g (.ref T) σ (upd H T (.tup [x, y])) fun σ3 H3 => te σ3 H3 fun z H5 => H5 l = some (.lst acc) ∧ acc.length < sizeLine ∧ Nx xs.length i (Pv (i + 1) (acc ++ [z]) σ3 (upd H5 l (.lst (acc ++ [z])))))
    (hd : ∀ acc σ H, Pv xs.length acc σ H → Q (.ref l) H) : ∃ W : Nat → Nat → List V → St → Hp → Prop, (∃ m, W 0 m [] σ H) ∧ LCW (Itz K b1 b2 a1 a2) g tYes te l Q W := by
  refine ⟨fun i m acc σ H => m = xs.length - i ∧ i ≤ xs.length ∧ Pv i acc σ H, ⟨xs.length, by simp, Nat.zero_le _, h0⟩, ?_⟩
  rintro i m acc σ H ⟨rfl, hi, p⟩
  obtain ⟨q0, q1, q2⟩ := hl i acc σ H p
  refine ⟨q0, ?_⟩
  by_cases hlt : i < xs.length
  · refine .inr ⟨⟨xs, ys, _, _, q1, q2, List.getElem?_eq_getElem hlt, List.getElem?_eq_getElem (by omega)⟩, fun v H2 ⟨x, y, ex, ey, T, hT, e1, e2⟩ => ?_⟩
    subst e1 e2
    exact hs i acc σ H x y T (ex xs q1) (ey ys q2) hT p
  · have e : i = xs.length := by omega
    subst e
    exact .inl ⟨⟨xs, q1, rfl⟩, hd acc σ H p⟩
/-- for x, y in enumerate(xs) -/
theorem for_enum {K : PySem.W.Frag} {b : Bool} {a : Addr} {xs : List V} {g : TG} {tb : TS} {D : Ends} {σ : St} {H : Hp} (Pv : Nat → St → Hp → Prop) (h0 : Pv 0 σ H) (hl : ∀ i σ H, i ≤ xs.length → Pv i σ H → SqB b K H a xs)
    (hs : ∀ i x σ H T, xs[i]? = some x → H T = none → Pv i σ H → g (.ref T) σ (upd H T (.tup [.int i, x])) fun σ2 H2 => tb { D with nx := Pv (i + 1), ct := Pv (i + 1), bk := D.nx } σ2 H2) (hd : ∀ σ H, Pv xs.length σ H → D.nx σ H) :
    ∃ W : Nat → Nat → St → Hp → Prop, (∃ m, W 0 m σ H) ∧ ∀ i m σ H, W i m σ H →
      ((Ite K b a).stop i H ∧ D.nx σ H) ∨ ((Ite K b a).go i H ∧ ∃ N : St → Hp → Prop, (∀ σ' H', N σ' H' → ∃ m', m' < m ∧ W (i + 1) m' σ' H') ∧ ∀ x H', (Ite K b a).yld i H x H' → g x σ H' fun σ2 H2 => tb { D with nx := N, ct := N, bk := D.nx } σ2 H2) := by
  refine ⟨fun i m σ H => m = xs.length - i ∧ i ≤ xs.length ∧ Pv i σ H, ⟨xs.length, by simp, Nat.zero_le _, h0⟩, ?_⟩
  rintro i m σ H ⟨rfl, hi, p⟩
  have q := hl i σ H hi p
  by_cases hlt : i < xs.length
  · refine .inr ⟨⟨xs, xs[i], q, List.getElem?_eq_getElem hlt⟩, Pv (i + 1), fun σ' H' p' => ⟨xs.length - (i + 1), by omega, rfl, hlt, p'⟩, fun x H' ⟨y, ey, T, hT, e1, e2⟩ => ?_⟩
    subst e1 e2
    exact hs i y σ H T (ey xs q) hT p
  · have e : i = xs.length := by omega
    subst e
    exact .inl ⟨⟨xs, q, rfl⟩, hd σ H p⟩
end L2
end
section
set_option maxHeartbeats 4000001
namespace L2
open PySem PySem.Spec PyProof.Rows Own
section
variable {X : Cx}
/-! ### == of two tuples of flat things -/
def rEqT (K : PySem.W.Frag) : R2 := fun x y H Q => ∃ a b xs ys, x = .ref a ∧ y = .ref b ∧ SqT K H a xs ∧ SqT K H b ys ∧ xs.all flatV = true ∧ ys.all flatV = true ∧ Q (.bl ((List.range (min xs.length ys.length)).all (fun j => eqV (xs.getD j .non) (ys.getD j .non)) && xs.length == ys.length)) H
theorem op_eqT (hu : X.A.units < cLine) : OpR X (compareOp .Eq) (rEqT X.K) := by
  intro pins s σ H x y v u Q I rx ry h
  obtain ⟨a, b, xs, ys, rfl, rfl, ha, hb, fa, fb, q⟩ := h
  cases rx
  cases ry
  obtain ⟨its, r1, p1, _⟩ := I.tuple ha
  obtain ⟨jts, r2, p2, _⟩ := I.tuple hb
  have l1 := r1.length
  have l2 := r2.length
  refine SeqAt.RcAt.tuples (e := fun j => eqV (xs.getD j .non) (ys.getD j .non)) p1 p2 hu (fun j h1 h2 => ?_) X.prog X.w _ _ ?_
  · have h1' : j < xs.length := by simpa [l1] using h1
    have h2' : j < ys.length := by simpa [l2] using h2
    obtain ⟨w1, e1, q1⟩ := r1.get (List.getElem?_eq_getElem h1')
    obtain ⟨w2, e2, q2⟩ := r2.get (List.getElem?_eq_getElem h2')
    have g1 : its.toArray[j] = w1 := by simpa using (List.getElem?_eq_some_iff.mp e1).2
    have g2 : jts.toArray[j] = w2 := by simpa using (List.getElem?_eq_some_iff.mp e2).2
    rw [g1, g2, List.getD_eq_getElem?_getD, List.getD_eq_getElem?_getD, List.getElem?_eq_getElem h1', List.getElem?_eq_getElem h2']
    exact eqAt_V q1 q2 (List.all_eq_true.mp fa _ (List.getElem_mem h1')) (List.all_eq_true.mp fb _ (List.getElem_mem h2'))
  · rw [List.size_toArray, List.size_toArray, ← l1, ← l2]
    exact ⟨.bl _, H, I, rfl, q⟩
/-! ### max and min of one row of ints -/
theorem num_at {ns : List Int} {its : List Value} (r : Vals (ns.map V.int) its) {i : Nat} {v : Value} (h : its[i]? = some v) : i < ns.length ∧ ∃ t, v = .int (ns.getD i 0) t := by
  have hl : its.length = ns.length := by rw [← r.length, List.length_map]
  have hi := (List.getElem?_eq_some_iff.mp h).1
  have e : (List.map V.int ns)[i]? = some (V.int (ns.getD i 0)) := by
    rw [List.getElem?_map, List.getD_eq_getElem?_getD, List.getElem?_eq_getElem (by omega)]; rfl
  obtain ⟨u', e', ⟨t, rfl⟩⟩ := r.get e
  rw [h] at e'
  exact ⟨by omega, t, Option.some.inj e'⟩
theorem getD_mem {ns : List Int} {i : Nat} (h : i < ns.length) : ns.getD i 0 ∈ ns := by
  rw [List.getD_eq_getElem?_getD, List.getElem?_eq_getElem h]; exact List.getElem_mem h
theorem mem_getD {ns : List Int} {x : Int} (h : x ∈ ns) : ∃ i, i < ns.length ∧ ns.getD i 0 = x := by
  obtain ⟨i, hi, e⟩ := List.getElem_of_mem h
  exact ⟨i, hi, by rw [List.getD_eq_getElem?_getD, List.getElem?_eq_getElem hi]; exact e⟩
theorem call_maxB (hc : X.calm = true) (b : Bool) : CallR X (.builtin "max") (fun vs H Q => ∃ a ns, vs = [.ref a] ∧ SqB b X.K H a (List.map V.int ns) ∧ 0 < ns.length ∧ ∀ M, M ∈ ns → (∀ x ∈ ns, x ≤ M) → Q (.int M) H) := by
  intro pins s σ H vs us Q I rv h
  obtain ⟨a, ns, rfl, hq, hpos, q⟩ := h
  obtain ⟨u, rfl, ru⟩ := rv.one
  cases ru
  obtain ⟨its, r, p⟩ := I.sq hq
  obtain ⟨o, n, eo, _⟩ := p.ob
  have hl : its.length = ns.length := by rw [← r.length, List.length_map]
  refine call_max_walk (iter_of p ⟨s.heap.objs.size, [s.heap.objs.size, a], [s.heap.objs.size], _, _, _, fun i j => decide (ns.getD i 0 > ns.getD j 0), rfl, walkB (show X.A.in1.handled = none from I.ok.hd hc) b _ a (Nat.ne_of_lt (Heap.lt_size eo)) its.toArray, ⟨?_, p.mv fun o e => Heap.get?_push_of_some _ e⟩, fun c hm => ?_, by rw [List.size_toArray]; omega, ?_, ?_⟩)
  · cases b <;> exact ⟨_, Heap.get?_push_size _ rfl, rfl, rfl⟩
  · show c < (s.heap.push _).objs.size
    rw [Heap.size_push]
    rcases List.mem_cons.mp hm with z | z
    · rw [z]; exact Nat.lt_succ_self _
    · rw [List.mem_singleton.mp z]; exact Nat.lt_succ_of_lt (Heap.lt_size eo)
  · intro i j vi vj s' Q' E' hi hj hQ
    obtain ⟨_, t, rfl⟩ := num_at r (i := i) (by simpa using hi)
    obtain ⟨_, t', rfl⟩ := num_at r (i := j) (by simpa using hj)
    exact gt_int hQ
  · intro v h' tk hv hk
    have best := argBest_gt (fun i => ns.getD i 0) (its.toArray.size - 1)
    obtain ⟨li, t, rfl⟩ := num_at r (by simpa using hv)
    refine ⟨.int _, H, I.kept (t' := tk) fun c o e => hk c o (fun z => Nat.ne_of_lt (Heap.lt_size e) (List.mem_singleton.mp z)) (Heap.get?_push_of_some _ e), ⟨t, rfl⟩, q _ (getD_mem li) fun x hx => ?_⟩
    obtain ⟨j, hj, rfl⟩ := mem_getD hx
    exact best.2 j (by rw [List.size_toArray]; omega)
theorem call_minB (hc : X.calm = true) (b : Bool) : CallR X (.builtin "min") (fun vs H Q => ∃ a ns, vs = [.ref a] ∧ SqB b X.K H a (List.map V.int ns) ∧ 0 < ns.length ∧ ∀ M, M ∈ ns → (∀ x ∈ ns, M ≤ x) → Q (.int M) H) := by
  intro pins s σ H vs us Q I rv h
  obtain ⟨a, ns, rfl, hq, hpos, q⟩ := h
  obtain ⟨u, rfl, ru⟩ := rv.one
  cases ru
  obtain ⟨its, r, p⟩ := I.sq hq
  obtain ⟨o, n, eo, _⟩ := p.ob
  have hl : its.length = ns.length := by rw [← r.length, List.length_map]
  refine call_min_walk (iter_of p ⟨s.heap.objs.size, [s.heap.objs.size, a], [s.heap.objs.size], _, _, _, fun i j => decide (ns.getD i 0 < ns.getD j 0), rfl, walkB (show X.A.in1.handled = none from I.ok.hd hc) b _ a (Nat.ne_of_lt (Heap.lt_size eo)) its.toArray, ⟨?_, p.mv fun o e => Heap.get?_push_of_some _ e⟩, fun c hm => ?_, by rw [List.size_toArray]; omega, ?_, ?_⟩)
  · cases b <;> exact ⟨_, Heap.get?_push_size _ rfl, rfl, rfl⟩
  · show c < (s.heap.push _).objs.size
    rw [Heap.size_push]
    rcases List.mem_cons.mp hm with z | z
    · rw [z]; exact Nat.lt_succ_self _
    · rw [List.mem_singleton.mp z]; exact Nat.lt_succ_of_lt (Heap.lt_size eo)
  · intro i j vi vj s' Q' E' hi hj hQ
    obtain ⟨_, t, rfl⟩ := num_at r (i := i) (by simpa using hi)
    obtain ⟨_, t', rfl⟩ := num_at r (i := j) (by simpa using hj)
    exact lt_int hQ
  · intro v h' tk hv hk
    have best := argBest_lt (fun i => ns.getD i 0) (its.toArray.size - 1)
    obtain ⟨li, t, rfl⟩ := num_at r (by simpa using hv)
    refine ⟨.int _, H, I.kept (t' := tk) fun c o e => hk c o (fun z => Nat.ne_of_lt (Heap.lt_size e) (List.mem_singleton.mp z)) (Heap.get?_push_of_some _ e), ⟨t, rfl⟩, q _ (getD_mem li) fun x hx => ?_⟩
    obtain ⟨j, hj, rfl⟩ := mem_getD hx
    exact best.2 j (by rw [List.size_toArray]; omega)
end
end L2
end
section
set_option maxHeartbeats 4000001
namespace Own
open PySem PySem.Spec PyProof.Rows
section
variable {prog : Program} {w : World} {A : Around} {E : Value → Shared → Prop} {s : Shared}
theorem SqO.cl {b : Bool} {a : Addr} {xs : Array Value} (x : SqO b s.heap a xs) : s.TypeIs (.ref a) (if b then "list" else "tuple") := by
  cases b <;> (obtain ⟨o, e, c, _⟩ := x; exact ⟨o, e, c⟩)
/-- all of a row, into a new list that is dropped -/
theorem gather {b : Bool} {a : Addr} {vs : List Value} {Q : List Value → Shared → Prop} (sq : SqO b s.heap a vs.toArray) (hz : vs.length ≤ sizeLine)
    (h : ∀ h', s.heap.objs.size ≤ h'.objs.size → (∀ c o, s.heap.get? c = some o → h'.get? c = some o) → Q vs { s with heap := h' }) : wpAny (model prog w) A (collect (.ref a)) Q E s := by
  obtain ⟨o, n, e, d⟩ := sq.ob
  have new : (s.heap.push (seqObj "list" #[] 0)).get? s.heap.objs.size = some (seqObj "list" #[] 0) := Heap.get?_push_size _ rfl
  have e' : (s.heap.push (seqObj "list" #[] 0)).get? a = some o := Heap.get?_push_of_some _ e
  have old : ∀ c u, s.heap.get? c = some u → ((s.heap.push (seqObj "list" #[] 0)).update s.heap.objs.size (Obj.mapSeq (· ++ vs.toArray))).get? c = some u := fun c u q => by
    rw [Heap.get?_update_other _ _ (Nat.ne_of_gt (Heap.lt_size q))]; exact Heap.get?_push_of_some _ q
  have sq' : SqO b (s.heap.push (seqObj "list" #[] 0)) a vs.toArray := sq.mv fun o q => Heap.get?_push_of_some _ q
  have short : ((#[] : Array Value) ++ vs.toArray).size ≤ sizeLine + 1 := by simp; omega
  unfold collect
  refine wpAny_bind (wpAny_runValue (codeAny_builtin entry_proto_collect' (wpAny_bind (wpAny_newList (wpAny_pure ⟨Code.quiet_builtin _ (by decide +kernel), codeAny_builtin entry_list_iadd' ?_⟩)))))
  show wpAny _ _ (Builtin.List.listExtendWith (.ref s.heap.objs.size) (.ref a) (.ref s.heap.objs.size)) _ _ ({ s with heap := s.heap.push (seqObj "list" #[] 0) } : Shared)
  unfold Builtin.List.listExtendWith; have tyr : Shared.TypeIs ({ s with heap := s.heap.push (seqObj "list" #[] 0) } : Shared) (.ref a) (if b then "list" else "tuple") := SqO.cl sq'
  refine wpAny_bind (wpAny_typeOf tyr ?_)
  have yes : (Builtin.List.listSameRef (.ref s.heap.objs.size) (.ref a) || Value.type (if b then "list" else "tuple") == Value.type "list" || Value.type (if b then "list" else "tuple") == Value.type "tuple") = true := by
    have c : ∀ b : Bool, (Value.type (if b then "list" else "tuple") == Value.type "list" || Value.type (if b then "list" else "tuple") == Value.type "tuple") = true := by decide
    rw [Bool.or_assoc, c b, Bool.or_true]
  rw [if_pos yes]
  refine wpAny_bind (listItems_at e' d (wpAny_bind (listItems_at new rfl ?_)))
  rw [if_neg (by simp)]
  refine wpAny_bind (listUpdate_at new rfl (wpAny_pure ?_) (Nat.zero_le _) short)
  refine wpAny_bind (wpAny_load (get?_update_seq new _) ?_)
  have all : ((#[] : Array Value) ++ vs.toArray).toList = vs := by simp
  have fin : wpAny (model prog w) A (pure ((#[] : Array Value) ++ vs.toArray).toList) Q E { s with heap := (s.heap.push (seqObj "list" #[] 0)).update s.heap.objs.size (Obj.mapSeq (· ++ vs.toArray)) } := by
    rw [all]; exact wpAny_pure (h _ (by rw [Heap.size_update, size_push']; exact Nat.le_succ _) old)
  exact fin
/-- sorted of a list or a tuple of fewer than 64 ints -/
theorem sortedO {b : Bool} {a : Addr} {vs : List Value} {ns : List Int} {Q : Value → Shared → Prop} (sq : SqO b s.heap a vs.toArray) (hI : IntsAre vs ns) (h64 : vs.length < 64)
    (h : ∀ h' l ms e (out : Array Value), s.heap.objs.size ≤ l → h'.get? l = some (seqObj "list" out e) → IntsAre out.toList ms → ms.Perm ns → ms.Pairwise (· ≤ ·) → (∀ c o, s.heap.get? c = some o → h'.get? c = some o) → Q (.ref l) { s with heap := h' }) :
    wpAny (model prog w) A (call (.builtin "sorted") [.ref a]) Q E s := by
  refine Calls.call_function_entry kind_sorted plain_sorted entry_sorted (args_sorted1 _) ?_; unfold Builtin.«sorted»
  have small : vs.length ≤ sizeLine := Nat.le_trans (Nat.le_of_lt h64) (by decide)
  refine wpAny_bind (m := checkCount "sorted" 1 1 _) (wpAny_pure (wpAny_bind (gather sq small fun h1 far k1 => wpAny_bind (wpAny_newList ?_))))
  have new : (h1.push (seqObj "list" vs.toArray 0)).get? h1.objs.size = some (seqObj "list" vs.toArray 0) := Heap.get?_push_size _ rfl
  refine wpAny_bind (wpAny_holding (wpAny_call_entry slot_list_sort ⟨_, new, rfl⟩ entry_list_sort (list_sort_tree new hI h64 fun out ms i1 i2 i3 => ⟨_, rfl, ?_⟩) (args_list_sort _)))
  obtain ⟨e, he⟩ := sortedHeap_at (out := out) new
  refine wpAny_pure ⟨_, rfl, h _ _ ms e out far he i1 i2 i3 fun c o q => ?_⟩
  have lt := Heap.lt_size (k1 c o q)
  rw [sortedHeap_old (Nat.ne_of_lt lt) (by rw [size_push']; exact Nat.lt_succ_of_lt lt)]
  exact Heap.get?_push_of_some _ (k1 c o q)
end
end Own
namespace L2
open PySem PySem.Spec PyProof.Rows Own
section
variable {X : Cx}
theorem ints_of {ns : List Int} {us : List Value} (h : IntsAre us ns) : Vals (ns.map V.int) us := by
  induction h with
  | nil => exact .nil
  | cons n t _ ih => exact .cons ⟨t, rfl⟩ ih
theorem to_ints : ∀ {ns : List Int} {us : List Value}, Vals (ns.map V.int) us → IntsAre us ns
  | [], _, .nil => .nil
  | n :: ns, _, .cons ⟨t, e⟩ r => by subst e; exact .cons n t (to_ints r)
theorem call_sortedB (b : Bool) : CallR X (.builtin "sorted") (fun vs H Q => ∃ a ns, vs = [.ref a] ∧ SqB b X.K H a (List.map V.int ns) ∧ ns.length < 64 ∧ ∀ (l : Addr) (ms : List Int), H l = none → ms.Perm ns → ms.Pairwise (· ≤ ·) → Q (.ref l) (upd H l (.lst (ms.map V.int)))) := by
  intro pins s σ H vs us Q I rv h
  obtain ⟨a, ns, rfl, hq, h64, q⟩ := h
  obtain ⟨u, rfl, ru⟩ := rv.one
  cases ru
  obtain ⟨its, r, p⟩ := I.sq hq
  have hl : its.length = ns.length := by rw [← r.length, List.length_map]
  refine sortedO p (to_ints r) (by omega) fun h' l ms e out far eo i1 i2 i3 k => ?_
  refine ⟨.ref l, _, I.laid (t' := s.toks) (o := .lst (ms.map V.int)) k far ⟨?_, out.toList, e, ints_of i1, by simpa [seqObj] using eo⟩, rfl, q l ms (I.hok.fresh far) i2 i3⟩
  rw [List.length_map, i2.length_eq]
  exact Nat.le_trans (Nat.le_of_lt h64) (by decide)
/-- xs[::-1] of a list -/
def tRev (K : PySem.W.Frag) (te : TE) (ts : TO) : TE := fun σ H Q => te σ H fun x H1 => ts σ H1 fun o H2 => o = some (-1) ∧ ∃ a xs, x = .ref a ∧ SqL K H2 a xs ∧ ∀ p, H2 p = none → Q (.ref p) (upd H2 p (.lst xs.reverse))
theorem pe_rev {e st : Expr} {te : TE} {ts : TO} {p2 pos : Pos} (he : PE X e te) (hs : PO X (some st) ts) : PE X (.Subscript e (.Slice none none (some st) p2) pos) (tRev X.K te ts) := by
  intro pins s σ H Q I h
  refine Subscript_ (thn (he pins s σ H _ I h) fun v s1 ⟨x, H1, I1, r1, q1⟩ => wpAny_Slice ?_)
  rw [evalPart_none]
  refine wpAny_pure (wpAny_pure (thn (hs pins s1 σ H1 _ I1 q1) fun vst s2 ⟨o, H2, I2, po, q2⟩ => ?_))
  obtain ⟨rfl, a, xs, rfl, hq, k⟩ := q2
  cases r1
  have I3 : Inv X pins σ H2 { s2 with heap := s2.heap.push { cls := .type "slice", data := .fields #[.none, .none, vst] } } := I2.kept (t' := s2.toks) fun b ob q => Heap.get?_push_of_some _ q
  obtain ⟨its, r, ht, hz⟩ := I3.list hq
  have hlen := r.length
  show wpAny (model X.prog X.w) X.A (subscriptTail e (.Slice none none (some st) p2) (.ref a) (.ref s2.heap.objs.size)) (EP X pins σ Q) X.xe { s2 with heap := s2.heap.push { cls := .type "slice", data := .fields #[.none, .none, vst] } }
  refine tail_any (ops := [.ref a, .ref s2.heap.objs.size]) ht.isList.typeIs slot_list_getitem.lookup (wpAny_getItem_list_slice ht.isList (Heap.IsSliceOf.new ..) .none .none po (by simp) ?_ (by rw [List.size_toArray] <;> omega)) (by with_unfolding_all rfl)
  rw [PySem.W.krv_pick]
  refine ⟨.ref _, _, I3.laid (t' := s2.toks) (o := .lst xs.reverse) (fun b ob q => Heap.get?_push_of_some _ q) (Nat.le_refl _) ⟨by rw [List.length_reverse]; exact hz, _, 0, r.reverse, ?_⟩, rfl, k _ (I3.hok.fresh (Nat.le_refl _))⟩
  exact Heap.get?_push_size _ rfl
end
end L2
end
section
set_option maxHeartbeats 4000001
namespace L2
open PySem PySem.Spec PyProof.Rows Own
section
variable {X : Cx}
/-! ### is, is not, of two truths -/
theorem op_isB : OpR X (compareOp .Is) (fun x y H Q => ∃ c d : Bool, x = .bl c ∧ y = .bl d ∧ Q (.bl (c == d)) H) := by
  intro pins s σ H x y v u Q I rx ry h
  obtain ⟨c, d, rfl, rfl, q⟩ := h
  cases rx; cases ry
  exact wpAny_is_plain rfl (fin_bl I q (by cases c <;> cases d <;> rfl))
theorem op_notB : OpR X (compareOp .IsNot) (fun x y H Q => ∃ c d : Bool, x = .bl c ∧ y = .bl d ∧ Q (.bl (!(c == d))) H) := by
  intro pins s σ H x y v u Q I rx ry h
  obtain ⟨c, d, rfl, rfl, q⟩ := h
  cases rx; cases ry
  exact wpAny_isNot_plain rfl (fin_bl I q (by cases c <;> cases d <;> rfl))
/-! ### t + u, whatever is empty: some tuple of both is told, and nothing else is new -/
def rCatA (K : PySem.W.Frag) : R2 := fun x y H Q => ∃ a b xs ys, x = .ref a ∧ y = .ref b ∧ SqT K H a xs ∧ SqT K H b ys ∧ xs.length + ys.length ≤ sizeLine ∧
  ∀ r H', Same H H' → SqT K H' r (xs ++ ys) → Q (.ref r) H'
theorem op_catA : OpR X (binaryOp .Add) (rCatA X.K) := by
  intro pins s σ H x y v u Q I rx ry h
  obtain ⟨a, b, xs, ys, rfl, rfl, ha, hb, hz, q⟩ := h
  by_cases hx : xs = []
  · subst hx
    cases rx; cases ry
    obtain ⟨its, r1, p1, _⟩ := I.tuple ha
    obtain ⟨jts, r2, p2, _⟩ := I.tuple hb
    cases r1
    obtain ⟨⟨c1, d1, e1, sl1⟩, o1, c1', n1, e1'⟩ := p1
    obtain ⟨⟨c2, d2, e2, sl2⟩, o2, c2', n2, e2'⟩ := p2
    simp only at c1' e1' c2' e2'
    subst c1' e1' c2' e2'
    refine concat_meets ⟨_, o1, rfl⟩ ⟨_, o2, rfl⟩ noFill_tuple_add seq_tuple_add PySem.F.slot_tuple_add PySem.F.entry_tuple_add (PySem.F.args_tuple_add_2 _ _) (tuple_addW0 a b #[] jts.toArray n1 n2 d1 d2 sl1 sl2 rfl) ⟨o1, o2, ?_⟩
    exact ⟨.ref b, H, I, rfl, q b H (Same.refl H) (by rw [List.nil_append]; exact hb)⟩
  · exact op_catT pins s σ H _ _ v u Q I rx ry ⟨a, b, xs, ys, rfl, rfl, ha, hb, hx, hz, fun e => q a H (Same.refl H) (by rw [e, List.append_nil]; exact ha), fun _ p hp => q p _ (same_new hp _) (SqT.of upd_same)⟩
end
/-! ### comprehensions over a tuple, a list; over a range with a test -/
theorem lc_tup {K : PySem.W.Frag} {a : Addr} {xs : List V} {g : TG} {te : TE} {l : Addr} {σ : St} {H : Hp} {Q : VK} (Pv : Nat → List V → St → Hp → Prop) (h0 : Pv 0 [] σ H) (hl : ∀ i acc σ H, Pv i acc σ H → H l = some (.lst acc) ∧ SqT K H a xs)
    (hs : ∀ i x acc σ H, xs[i]? = some x → Pv i acc σ H → g x σ H fun σ3 H3 => te σ3 H3 fun y H5 => H5 l = some (.lst acc) ∧ acc.length < sizeLine ∧ Nx xs.length i (Pv (i + 1) (acc ++ [y]) σ3 (upd H5 l (.lst (acc ++ [y])))))
    (hd : ∀ acc σ H, Pv xs.length acc σ H → Q (.ref l) H) : ∃ W : Nat → Nat → List V → St → Hp → Prop, (∃ m, W 0 m [] σ H) ∧ LCW (Itt K a) g tYes te l Q W := by
  refine ⟨fun i m acc σ H => m = xs.length - i ∧ i ≤ xs.length ∧ Pv i acc σ H, ⟨_, rfl, Nat.zero_le _, h0⟩, ?_⟩
  rintro i m acc σ H ⟨rfl, hi, p⟩
  obtain ⟨q0, q1⟩ := hl i acc σ H p
  refine ⟨q0, ?_⟩
  by_cases hlt : i < xs.length
  · refine .inr ⟨⟨xs, xs[i], q1, List.getElem?_eq_getElem hlt⟩, fun x H2 ⟨e, y⟩ => ?_⟩
    subst e
    exact hs i x acc σ _ (y xs q1) p
  · obtain rfl : i = xs.length := by omega
    exact .inl ⟨⟨xs, q1, Nat.le_refl _⟩, hd acc σ H p⟩
theorem lc_list {K : PySem.W.Frag} {a : Addr} {xs : List V} {g : TG} {te : TE} {l : Addr} {σ : St} {H : Hp} {Q : VK} (Pv : Nat → List V → St → Hp → Prop) (h0 : Pv 0 [] σ H) (hl : ∀ i acc σ H, Pv i acc σ H → H l = some (.lst acc) ∧ SqL K H a xs)
    (hs : ∀ i x acc σ H, xs[i]? = some x → Pv i acc σ H → g x σ H fun σ3 H3 => te σ3 H3 fun y H5 => H5 l = some (.lst acc) ∧ acc.length < sizeLine ∧ Nx xs.length i (Pv (i + 1) (acc ++ [y]) σ3 (upd H5 l (.lst (acc ++ [y])))))
    (hd : ∀ acc σ H, Pv xs.length acc σ H → Q (.ref l) H) : ∃ W : Nat → Nat → List V → St → Hp → Prop, (∃ m, W 0 m [] σ H) ∧ LCW (Itl K a) g tYes te l Q W := by
  refine ⟨fun i m acc σ H => m = xs.length - i ∧ i ≤ xs.length ∧ Pv i acc σ H, ⟨_, rfl, Nat.zero_le _, h0⟩, ?_⟩
  rintro i m acc σ H ⟨rfl, hi, p⟩
  obtain ⟨q0, q1⟩ := hl i acc σ H p
  refine ⟨q0, ?_⟩
  by_cases hlt : i < xs.length
  · refine .inr ⟨⟨xs, xs[i], q1, List.getElem?_eq_getElem hlt⟩, fun x H2 ⟨e, y⟩ => ?_⟩
    subst e
    exact hs i x acc σ _ (y xs q1) p
  · obtain rfl : i = xs.length := by omega
    exact .inl ⟨⟨xs, q1, Nat.le_refl _⟩, hd acc σ H p⟩
theorem lc_rangeT {lo : Int} {n : Nat} {g : TG} {tt : TT} {te : TE} {l : Addr} {σ : St} {H : Hp} {Q : VK} (Pv : Nat → List V → St → Hp → Prop) (h0 : Pv 0 [] σ H) (hl : ∀ i acc σ H, Pv i acc σ H → H l = some (.lst acc))
    (hs : ∀ i acc σ H, i < n → Pv i acc σ H → g (.int (lo + i)) σ H fun σ3 H3 => tt σ3 H3 fun b H4 => if b = true then te σ3 H4 fun y H5 => H5 l = some (.lst acc) ∧ acc.length < sizeLine ∧ Nx n i (Pv (i + 1) (acc ++ [y]) σ3 (upd H5 l (.lst (acc ++ [y])))) else Nx n i (Pv (i + 1) acc σ3 H4))
    (hd : ∀ acc σ H, Pv n acc σ H → Q (.ref l) H) : ∃ W : Nat → Nat → List V → St → Hp → Prop, (∃ m, W 0 m [] σ H) ∧ LCW (Itr lo n) g tt te l Q W := by
  refine ⟨fun i m acc σ H => m = n - i ∧ i ≤ n ∧ Pv i acc σ H, ⟨_, rfl, Nat.zero_le _, h0⟩, ?_⟩
  rintro i m acc σ H ⟨rfl, hi, p⟩
  refine ⟨hl i acc σ H p, ?_⟩
  by_cases hlt : i < n
  · refine .inr ⟨hlt, fun x H2 ⟨e, y⟩ => ?_⟩
    subst e y
    exact hs i acc σ _ hlt p
  · obtain rfl : i = n := by omega
    exact .inl ⟨Nat.le_refl _, hd acc σ H p⟩
end L2
end
section
set_option maxHeartbeats 4000001
namespace L2
open PySem PySem.Spec PyProof.Rows PySem.Calls PySem.NumText Own
/-! ### int of a long text: the limit on digits stands as at first -/
theorem looks_limit {M : Model} {K : PySem.W.Frag} {h : Heap} (X : K.In h) (e : PySem.W.nsIn K cStatics "sys.int_max_str_digits" = some none) : PySem.W.Looks M h Builtin.intMaxStrDigits 4300 := by
  show PySem.W.Looks M h (nsGet cStatics "sys.int_max_str_digits" >>= _) 4300
  exact (PySem.W.looks_nsIn X e).andThen .now
theorem wp_long {M : Model} {A : Around} {E : Value → Shared → Prop} {s : Shared} {Q : Value → Shared → Prop} {v : Value} {text : List Nat} {n : Int}
    (hl : PySem.W.Looks M s.heap Builtin.intMaxStrDigits 4300) (hs : ¬ (text.takeWhile (· != 0)).length ≤ 640) (hr : (int_private% "readNumeral") 4300 10 (text.takeWhile (· != 0)) = (int_private% "Numeral.value") n)
    (ha : ((text.takeWhile (· != 0)).length == text.length) = true) (h : Q (.int n s.toks) { s with toks := s.toks + 1 }) : wpAny M A ((int_private% "intFromText") v text 10) Q E s := by
  cases s
  -- the text is seen whole, the limit is read, and the number is told
  repeat (any_goals (first | assumption | (with_reducible refine wpAny_ite_false (decide_eq_false hs) ?_) | ((with_reducible show wpAny _ _ Builtin.intMaxStrDigits _ _ _); refine PySem.W.Looks.at hl ?_) | wp_step))
  all_goals (try (rw [hr]; dsimp only))
  repeat (any_goals (first | assumption | (with_reducible refine wpAny_ite_true (by rw [ha]; rfl) ?_) | wp_step))
theorem meets_long {K : PySem.W.Frag} {x : Str} {u : Tok} {n : Int} (e : PySem.W.nsIn K cStatics "sys.int_max_str_digits" = some none) (hl : x.length ≤ 4300) (h6 : ¬ (numSeenOf x).length ≤ 640) (hn : intText? x = some n) :
    Meets (Builtin.«int.__new__» ⟨[.type "int", .str x u], []⟩) (fun _ R s => K.In s.heap ∧ R (.ok (.ret (.int n s.toks))) { s with toks := s.toks + 1 }) :=
  .of_wp fun prog w A R s h => by
    cases s with
    | mk hp gs dr tk os =>
    obtain ⟨KX, h⟩ := h
    have kinds := And.intro PySem.W.KIN.str_int (And.intro PySem.W.KIN.str_idx PySem.W.KIN.str_trunc)
    obtain ⟨k1, k2, k3⟩ := kinds
    have k4 := F.conv_sub_int; have k5 := F.madeHere_int
    have ofText : typeOf (.str x u) = pure (.type "str") := rfl
    have lk : PySem.W.Looks (model prog w) hp Builtin.intMaxStrDigits 4300 := looks_limit KX e
    have rd : (int_private% "readNumeral") 4300 10 (numSeenOf x) = (int_private% "Numeral.value") n ∧ ((numSeenOf x).length == (numTextOf x).length) = true := by
      rcases read4300 x (Nat.le_trans hl (by decide)) with ⟨m, g1, g2, g3⟩ | ⟨g1, _⟩
      · rw [hn] at g1; cases g1; exact ⟨g3, g2⟩
      · rw [hn] at g1; cases g1
    have all4 := PySem.W.KIN.Hid.mk (And.intro lk (And.intro h6 rd))
    clear lk h6 rd hl hn e KX
    repeat (any_goals (first | assumption | ((with_reducible show wpAny _ _ ((int_private% "intFromText") _ _ _) _ _ _); refine wp_long all4.out.1 all4.out.2.1 all4.out.2.2.1 all4.out.2.2.2 ?_) | wp_step))
    all_goals (first | exact Exists.intro _ (And.intro rfl h) | skip)
section
variable {X : Cx}
/-- int of a text of figures alone, more than 640 of them -/
theorem call_intLong (e : PySem.W.nsIn X.K cStatics "sys.int_max_str_digits" = some none) : CallR X (.type "int") (fun vs H Q => ∃ x : Str, vs = [.str x] ∧ AllDigits x.cps.toList ∧ 640 < x.length ∧ x.length ≤ 4300 ∧ Q (.int (digitsVal x.cps.toList : Nat)) H) := by
  intro pins s σ H vs us Q I rv h
  obtain ⟨x, rfl, hd, h6, h43, q⟩ := h
  obtain ⟨u, rfl, t, rfl⟩ := rv.one
  have xl : x.cps.toList.length = x.length := by simp [Str.length]
  have ne : x.cps.toList ≠ [] := fun z => by rw [z] at xl; simp at xl; omega
  have hn := intText_digits hd ne h43
  have seen : (numSeenOf x).length = x.length := by
    rcases read4300 x (Nat.le_trans h43 (by decide)) with ⟨m, g1, g2, g3⟩ | ⟨g1, _⟩
    · have a128 : x.cps.all (· < 128) = true := by
        rw [← Array.all_toList]; refine List.all_eq_true.mpr fun c hc => ?_
        have := (hd c hc).2
        exact decide_eq_true (show c < 128 by omega)
      have g2' := eq_of_beq g2
      rw [g2']
      show (if x.cps.all (· < 128) = true then x.cps.toList else _).length = _
      rw [if_pos a128, xl]
    · rw [hn] at g1; cases g1
  exact call_int_1 (meets_long (K := X.K) e h43 (by omega) hn) ⟨I.kIn, (typeIs_int _ _ _), .int _, H, I.tok _, ⟨_, rfl⟩, q⟩
/-- a sign so often -/
theorem op_repS : OpR X (binaryOp .Mult) (fun x y H Q => ∃ (c : Nat) (n : Int), x = .str ⟨#[c]⟩ ∧ y = .int n ∧ 0 ≤ n ∧ n ≤ 100000 ∧ ∀ z : Str, z.cps.toList = List.replicate n.toNat c → Q (.str z) H) := by
  intro pins s σ H x y v u Q I rx ry h
  obtain ⟨c, n, rfl, rfl, n0, n1, q⟩ := h
  obtain ⟨t, rfl⟩ := rx
  obtain ⟨t', rfl⟩ := ry
  have one : (⟨#[c]⟩ : Str).length = 1 := rfl
  refine PySem.P.mul_str (by rw [decide_eq_false (by omega), decide_eq_false (by omega)]; rfl) (fun a b => ?_) (fun a b => ?_) ?_
  · rw [one]
    have : (1 : Int) ≤ (2 ^ 63 - 1) / n := by
      rw [Int.le_ediv_iff_mul_le (by omega)]; omega
    omega
  · rw [one]
    exact decide_eq_false (by have := sizeLine_eq; omega)
  · by_cases a : n < 1
    · rw [if_pos a]
      have e : n = 0 := by omega
      subst e
      exact ⟨by decide, .str _, H, I.tok _, ⟨_, rfl⟩, q _ rfl⟩
    · rw [if_neg a]
      by_cases b : n = 1
      · subst b
        rw [if_pos (show ((1 : Int) == 1 || (⟨#[c]⟩ : Str).length == 0) = true from rfl)]
        exact ⟨.str _, H, I, ⟨_, rfl⟩, q _ rfl⟩
      · have nb : ¬ (n == 1 || (⟨#[c]⟩ : Str).length == 0) = true := by simp [b, one]
        rw [if_neg nb]
        have lst : ∀ (k : Nat) (acc : Array Nat), ((List.replicate k #[c]).foldl (· ++ ·) acc).toList = acc.toList ++ List.replicate k c := fun k => by
          induction k with
          | zero => intro acc; simp
          | succ k ih => intro acc; rw [List.replicate_succ, List.foldl_cons, ih, List.replicate_succ]; simp
        have l0 := lst n.toNat #[]
        refine ⟨?_, .str _, H, I.tok _, ⟨_, rfl⟩, q _ (by rw [l0]; rfl)⟩
        have ln := congrArg List.length l0
        simp only [Array.length_toList, List.length_append, List.length_replicate] at ln
        show (Array.size _) ≤ sizeLine
        rw [ln]
        have := sizeLine_eq
        simp
        omega
end
end L2
end
section
set_option maxHeartbeats 4000001
namespace L2
open PySem PySem.Spec PyProof.Rows Own
/-! ### tuple of a range -/
section
variable {prog : Program} {w : World} {A : Around} {E : Value → Shared → Prop} {s : Shared}
theorem collect_rng {Q : List Value → Shared → Prop} {r : Addr} {a b c : Int} {t u v : Tok} {n : Nat} (hh : A.handled = none) (hr : IsRange s.heap r a b c t u v) (sm : Builtin.Range.small a b c = true) (hn : Builtin.Range.rangeSize a b c = n) (hlen : n ≤ 2 ^ 24)
    (q : ∀ (h' : Heap) (tk : Nat) (acc : Array Value), (∀ b o, s.heap.get? b = some o → h'.get? b = some o) → ItemsOf (fun i v => ∃ t, v = .int (a + i * c) t) acc n → Q acc.toList { s with heap := h', toks := tk }) : wpAny (model prog w) A (collect (.ref r)) Q E s := by
  have key : ∀ R : Result → Shared → Prop, (∀ (h' : Heap) (tk : Nat) (acc : Array Value) (c' : Nat), (∀ b o, s.heap.get? b = some o → h'.get? b = some o) → h'.get? s.heap.objs.size = some { cls := .type "list", data := .seq acc c' } → ItemsOf (fun i v => ∃ t, v = .int (a + i * c) t) acc n → R (.ok (.ret (.ref s.heap.objs.size))) { s with heap := h', toks := tk }) →
      codeAny (model prog w) A (.builtin "proto.collect" ⟨[.ref r], []⟩) R s := by
    intro R hR
    -- an empty list is made, and the range is added to it
    have u1 := fun z => Around.under_plainId (A := A) F.plain_proto_collect z
    have u2 := fun z => Around.under_plainId (A := A) F.plain_list_iadd z
    refine codeAny_builtin F.entry_proto_collect ?_
    rw [u1]
    refine wpAny_bind (m := newList []) (wpAny_newObj_type (wpAny_pure ⟨plainId_quiet F.plain_list_iadd _, codeAny_builtin F.entry_list_iadd ?_⟩))
    rw [u2]
    have e0 : (s.heap.push { cls := .type "list", data := .seq ([] : List Value).toArray }).get? s.heap.objs.size = some { cls := .type "list", data := .seq #[] 0 } := Heap.get?_push_size _ rfl
    exact wpAny_extend_range (s := { s with heap := s.heap.push { cls := .type "list", data := .seq ([] : List Value).toArray } }) hh (Heap.get?_push_of_some _ hr) sm hn hlen s.heap.objs.size (.ref s.heap.objs.size) _ e0 fun h' tk acc' c' kk e it => hR h' tk acc' c' (fun b o z => kk b o (Nat.ne_of_lt (Heap.lt_size z)) (Heap.get?_push_of_some _ z)) e it
  unfold collect
  exact wpAny_bind (wpAny_runValue (key _ fun h' tk acc c' kk e it => wpAny_bind (m := load s.heap.objs.size) (wpAny_load e (wpAny_pure (q h' tk acc kk it)))))
theorem meets_tup_rng (r : Addr) (a b c : Int) (t u v : Tok) (n : Nat) (sm : Builtin.Range.small a b c = true) (hn : Builtin.Range.rangeSize a b c = n) (hlen : n ≤ 2 ^ 24) :
    Meets (Builtin.«tuple.__new__» ⟨[.type "tuple", .ref r], []⟩) (fun A R s => A.handled = none ∧ IsRange s.heap r a b c t u v ∧ ∀ (h' : Heap) (tk : Nat) (acc : Array Value), (∀ b o, s.heap.get? b = some o → h'.get? b = some o) → ItemsOf (fun i v => ∃ t, v = .int (a + i * c) t) acc n →
      R (.ok (.ret (.ref h'.objs.size))) { s with heap := h'.push { cls := .type "tuple", data := .seq acc }, toks := tk }) :=
  .of_wp fun prog w A R s h => by
    obtain ⟨hh, hr, h⟩ := h
    have g1 := sub_tuple_self
    have g2 := init_tuple_lookup
    have g3 := madeHere_tuple
    have g4 : s.TypeIs (.ref r) "range" := ⟨_, hr, rfl⟩
    have g5 : A.in1.handled = none := hh
    wp_walk using wpAny_typeOf g4, collect_rng g5 hr sm hn hlen
    intro h' tk acc kk it
    rw [show acc.toList.toArray = acc by simp]
    exact wpAny_bind (m := Builtin.Tuple.tupleExact acc) (wpAny_newObj_type (wpAny_pure ⟨_, rfl, h h' tk acc kk it⟩) (by show acc.size ≤ sizeLine; rw [it.1, sizeLine_eq]; exact hlen))
theorem call_tup_rng {Q : Value → Shared → Prop} {r : Addr} {a b c : Int} {t u v : Tok} {n : Nat} (hh : A.handled = none) (hr : IsRange s.heap r a b c t u v) (sm : Builtin.Range.small a b c = true) (hn : Builtin.Range.rangeSize a b c = n) (hlen : n ≤ 2 ^ 24)
    (q : ∀ (h' : Heap) (tk : Nat) (acc : Array Value), (∀ b o, s.heap.get? b = some o → h'.get? b = some o) → ItemsOf (fun i v => ∃ t, v = .int (a + i * c) t) acc n → Q (.ref h'.objs.size) { s with heap := h'.push { cls := .type "tuple", data := .seq acc }, toks := tk }) :
    wpAny (model prog w) A (call (.type "tuple") [.ref r]) Q E s :=
  callType_new F.called_tuple (by decide) (F.typeCall_tuple_1 _) (F.newCall_tuple_1 _) (fun obj => F.args_object_init_2 obj _) F.entry_tuple_new (meets_tup_rng r a b c t u v n sm hn hlen) ⟨hh, hr, fun h' tk acc kk it => ⟨⟨_, Heap.get?_push_size _ rfl, rfl⟩, q h' tk acc kk it⟩⟩
end
/-- 0, 1, .. -/
def upTo (n : Nat) : List V := (List.range n).map fun (i : Nat) => V.int i
theorem vals_of_items {acc : Array Value} {n : Nat} (h : ItemsOf (fun i v => ∃ t, v = Value.int (0 + i * 1) t) acc n) : Vals (upTo n) acc.toList := by
  obtain ⟨h1, h2⟩ := h
  have go : ∀ (l : List Value) (k : Nat), (∀ (j : Nat) (v : Value), l[j]? = some v → ∃ t, v = Value.int ((k + j : Nat) : Int) t) → Vals ((List.range l.length).map fun (i : Nat) => V.int ((k + i : Nat) : Int)) l := by
    intro l
    induction l with
    | nil => intro k _; exact .nil
    | cons x l ih =>
      intro k hx
      rw [List.length_cons, List.range_succ_eq_map, List.map_cons, List.map_map]
      refine .cons (by obtain ⟨t, e⟩ := hx 0 x rfl; exact ⟨t, e⟩) ?_
      have := ih (k + 1) fun j v hj => by
        obtain ⟨t, e⟩ := hx (j + 1) v (by simpa using hj)
        exact ⟨t, by rw [e]; congr 1; omega⟩
      refine cast (congrArg (fun z => Vals z l) (List.map_congr_left fun i _ => ?_)) this
      show V.int ((k + 1 + i : Nat) : Int) = V.int ((k + (i + 1) : Nat) : Int)
      congr 2; omega
  have := go acc.toList 0 fun j v hj => by
    obtain ⟨t, e⟩ := h2 j v (by simpa using hj)
    exact ⟨t, by rw [e]; congr 1; omega⟩
  rw [Array.length_toList, h1] at this
  unfold upTo
  refine cast (congrArg (fun z => Vals z acc.toList) (List.map_congr_left fun i _ => ?_)) this
  show V.int ((0 + i : Nat) : Int) = V.int (i : Int)
  rw [Nat.zero_add]
theorem upTo_len (n : Nat) : (upTo n).length = n := by simp [upTo]
section
variable {X : Cx}
/-- list(range(a)), tuple(range(a)) -/
def tTyRng (b : Bool) (ta : TA) : TE := fun σ H Q => ta σ H fun vs H1 => ∃ j : Nat, vs = [.int j] ∧ j ≤ 100000 ∧ ∀ l, H1 l = none → Q (.ref l) (upd H1 l (if b = true then .lst (upTo j) else .tup (upTo j)))
theorem small_of {j : Nat} (h : j ≤ 100000) : Builtin.Range.small 0 (j : Int) 1 = true := small_one (by omega) (by omega) (by omega) (by omega)
theorem size_of {j : Nat} : Builtin.Range.rangeSize 0 (j : Int) 1 = ((j : Nat) : Int) := by rw [rangeSize_one]; split <;> omega
theorem pe_lstRng {a : Expr} {ta : TA} {p p2 pos pos2 : Pos} (hc : X.calm = true) (hgl : Gl X "list") (hml : X.mg "list" = none) (hgr : Gl X "range") (hmr : X.mg "range" = none) (ha : PA X [a] ta) (hs : starEach [a] X.env = [(false, eval a X.env)] := by rfl)
    (hs2 : starEach [.Call (.Name "range" p2) [a] [] pos2] X.env = [(false, eval (.Call (.Name "range" p2) [a] [] pos2) X.env)] := by rfl) : PE X (.Call (.Name "list" p) [.Call (.Name "range" p2) [a] [] pos2] [] pos) (tTyRng true ta) := by
  intro pins s σ H Q I h
  refine wpAny_Call_Name_kw (ld_blt I hgl hml (u := .type "list") (by rfl) (PyProof.Rows.callWith_type1 ?_ hs2 rfl))
  rw [hs2]
  refine Calls.spliced_cons (Call_ (ld_blt I hgr hmr boot_range (PyProof.Rows.callWith_type1 (thn (ha pos2 pins s σ H _ I h) fun us s1 ⟨vs, H1, I1, r1, q1⟩ => ?_) hs rfl)))
  obtain ⟨j, rfl, hj, q⟩ := q1
  obtain ⟨u, rfl, t, rfl⟩ := r1.one
  refine call_range_1 (Calls.spliced_nil ?_)
  refine call_list_range (n := j) (I1.ok.hd hc) (IsRange.new ..) (small_of hj) size_of (Nat.le_trans hj (by decide)) fun h' tk acc' c' kk e it => ?_
  have k2 : ∀ b o, s1.heap.get? b = some o → h'.get? b = some o := fun b o z => kk b o (Heap.get?_push_of_some _ z)
  refine ⟨.ref _, _, I1.laid (t' := tk) (o := .lst (upTo j)) k2 ?_ ⟨by rw [upTo_len]; exact Nat.le_trans hj (by decide), acc'.toList, c', vals_of_items it, by simpa using e⟩, rfl, q _ (I1.hok.fresh ?_)⟩
  all_goals (show s1.heap.objs.size ≤ (s1.heap.push _).objs.size; rw [Heap.size_push]; exact Nat.le_succ _)
theorem pe_tupRng {a : Expr} {ta : TA} {p p2 pos pos2 : Pos} (hc : X.calm = true) (hgl : Gl X "tuple") (hml : X.mg "tuple" = none) (hgr : Gl X "range") (hmr : X.mg "range" = none) (ha : PA X [a] ta) (hs : starEach [a] X.env = [(false, eval a X.env)] := by rfl)
    (hs2 : starEach [.Call (.Name "range" p2) [a] [] pos2] X.env = [(false, eval (.Call (.Name "range" p2) [a] [] pos2) X.env)] := by rfl) : PE X (.Call (.Name "tuple" p) [.Call (.Name "range" p2) [a] [] pos2] [] pos) (tTyRng false ta) := by
  intro pins s σ H Q I h
  refine wpAny_Call_Name_kw (ld_blt I hgl hml (u := .type "tuple") (by rfl) (PyProof.Rows.callWith_type1 ?_ hs2 rfl))
  rw [hs2]
  refine Calls.spliced_cons (Call_ (ld_blt I hgr hmr boot_range (PyProof.Rows.callWith_type1 (thn (ha pos2 pins s σ H _ I h) fun us s1 ⟨vs, H1, I1, r1, q1⟩ => ?_) hs rfl)))
  obtain ⟨j, rfl, hj, q⟩ := q1
  obtain ⟨u, rfl, t, rfl⟩ := r1.one
  refine call_range_1 (Calls.spliced_nil ?_)
  refine call_tup_rng (n := j) (I1.ok.hd hc) (IsRange.new ..) (small_of hj) size_of (Nat.le_trans hj (by decide)) fun h' tk acc kk it => ?_
  have k2 : ∀ b o, s1.heap.get? b = some o → h'.get? b = some o := fun b o z => kk b o (Heap.get?_push_of_some _ z)
  have I2 : Inv X pins σ H1 { s1 with heap := h', toks := tk } := I1.kept k2
  refine ⟨.ref h'.objs.size, _, I2.laid (t' := tk) (o := .tup (upTo j)) (fun b o e => Heap.get?_push_of_some _ e) (Nat.le_refl _) ⟨by rw [upTo_len]; exact Nat.le_trans hj (by decide), acc.toList, vals_of_items it, ?_⟩, rfl, q _ (I2.hok.fresh (Nat.le_refl _))⟩
  exact ⟨_, Heap.get?_push_size _ rfl, rfl, 0, by simp, rfl⟩
/-! ### xs.insert(i, y), i from 0 -/
def insF (i : Nat) (y : Value) : Array Value → Array Value := fun xs => (xs.extract 0 (if (i : Int) < 0 then ((i : Int) + (xs.size : Int)).toNat else min (i : Int).toNat xs.size)).push y ++ xs.extract (if (i : Int) < 0 then ((i : Int) + (xs.size : Int)).toNat else min (i : Int).toNat xs.size)
theorem ins_meets (l : Addr) (its : List Value) (n i : Nat) (t : Tok) (y : Value) (h : i ≤ its.length) (hz : its.length < 100000) : Meets (Builtin.«list.insert» ⟨[.ref l, .int i t, y], []⟩) (fun _ R s => s.heap.get? l = some { cls := .type "list", data := .seq its.toArray n } ∧
    R (.ok (.ret .none)) { s with heap := s.heap.update l (Obj.mapSeq (insF i y)), toks := s.toks }) := by
  have fi : ¬ (!Builtin.List.listFitsIndex (i : Int)) = true := by rw [fitsIndex_both (by omega) (by omega)]; exact Bool.false_ne_true
  have h2 : its.toArray.size ≤ sizeLine := by rw [List.size_toArray, sizeLine_eq]; omega
  exact @AutoSeq1.list_insert_list_int_val_1 l its.toArray n (i : Int) t y fi h2
theorem insF_eq (its : List Value) (i : Nat) (y : Value) (h : i ≤ its.length) : insF i y its.toArray = (its.take i ++ y :: its.drop i).toArray := by
  unfold insF
  have k1 : (if (i : Int) < 0 then ((i : Int) + (its.toArray.size : Int)).toNat else min (i : Int).toNat its.toArray.size) = i := by
    rw [if_neg (by omega), Int.toNat_natCast, List.size_toArray]; omega
  rw [k1]
  apply Array.ext'
  simp
  rw [List.take_of_length_le]; simp
def rInsert : V → List V → Hp → VK → Prop := fun x vs H Q => ∃ l xs y, ∃ i : Nat, x = .ref l ∧ vs = [.int i, y] ∧ H l = some (.lst xs) ∧ i ≤ xs.length ∧ xs.length < 100000 ∧ Q .non (upd H l (.lst (xs.take i ++ y :: xs.drop i)))
theorem mt_insert : MtM X "list.insert" rInsert := by
  intro pins s σ H x vs v us Q I rx rv h
  obtain ⟨l, xs, y, i, rfl, rfl, hH, hi, hz, q⟩ := h
  cases rx
  obtain ⟨u1, u2, rfl, ⟨t, rfl⟩, r2⟩ := rv.two
  obtain ⟨z, its, n, r, hl, e⟩ := I.lstM hH
  refine call_meets F.slot_list_insert ⟨_, e, rfl⟩ F.entry_list_insert (F.args_list_insert_3 _ _ _) (@ins_meets l its n i t u2 (by omega) (by omega)) ⟨e, ?_⟩
  refine ⟨.non, _, I.lset (its' := its.take i ++ u2 :: its.drop i) hH e (insF_eq its i u2 (by omega)) ((r.take i).append (.cons r2 (r.drop i))) ?_, rfl, q⟩
  rw [List.length_append, List.length_cons, List.length_take, List.length_drop, sizeLine_eq]; omega
/-! ### xs != [] -/
theorem op_neE (hu : X.A.units < cLine) : OpR X (compareOp .NotEq) (fun x y H Q => ∃ a b xs, x = .ref a ∧ y = .ref b ∧ SqL X.K H a xs ∧ SqL X.K H b [] ∧ Q (.bl (!xs.isEmpty)) H) := by
  intro pins s σ H x y v u Q I rx ry h
  obtain ⟨a, b, xs, rfl, rfl, ha, hb, q⟩ := h
  cases rx; cases ry
  obtain ⟨its, r1, p1, _⟩ := I.list ha
  obtain ⟨jts, r2, p2, _⟩ := I.list hb
  cases r2
  have l1 := r1.length
  cases xs with
  | nil =>
    cases r1
    exact SeqAt.RcNeAt.lists (e := fun _ => true) p1.isList p2.isList rfl hu (fun j h => absurd h (Nat.not_lt_zero _)) X.prog X.w _ _ ⟨.bl _, H, I, rfl, q⟩
  | cons z zs =>
    exact SeqAt.RcNeAt.lists_lengths p1.isList p2.isList (by rw [List.size_toArray, ← l1]; simp) hu X.prog X.w _ _ ⟨.bl _, H, I, rfl, q⟩
end
end L2
end
section
set_option maxHeartbeats 4000001
namespace L2
open PySem PySem.Spec PyProof.Rows Own
section
variable {prog : Program} {w : World} {A : Around} {E : Value → Shared → Prop} {s : Shared}
/-! ### a pair turned about: t[::-1] -/
theorem applied_back {sl : Addr} {t : Tok} {Q : Int × Int × Nat → Shared → Prop} (hs : s.heap.IsSliceOf sl .none .none (.int (-1) t)) (h : Q (1, -1, 2) s) : wpAny (model prog w) A (Builtin.Slice.sliceApplied (.ref sl) (pure (2 : Int))) Q E s := by
  obtain ⟨os, hos, hcs, hds⟩ := id hs
  unfold Builtin.Slice.sliceApplied Builtin.Slice.sliceFields
  refine wpAny_bind (wpAny_bind (wpAny_field hos hds (x := .none) rfl (wpAny_bind (wpAny_field hos hds (x := .none) rfl (wpAny_bind (wpAny_field hos hds (x := .int (-1) t) rfl (wpAny_pure ?_)))))))
  refine wpAny_bind (slicePart_int ?_)
  show wpAny _ _ (if ((-1 : Int) == 0) = true then _ else _) _ _ s
  rw [if_neg (by decide)]
  refine wpAny_bind (slicePart_none (wpAny_bind (slicePart_none (wpAny_bind (wpAny_pure ?_)))))
  show wpAny _ _ (match Builtin.Slice.sliceAdjust none none (-1) (2 : Int) with | (lo, hi) => pure (lo, (-1 : Int), Builtin.Slice.slicePlaces lo hi (-1))) _ _ s
  have e : Builtin.Slice.sliceAdjust none none (-1) (2 : Int) = (1, -1) := by decide
  rw [e]
  have e2 : Builtin.Slice.slicePlaces (1 : Int) (-1) (-1) = 2 := by decide
  show wpAny _ _ (pure ((1 : Int), (-1 : Int), Builtin.Slice.slicePlaces (1 : Int) (-1) (-1))) _ _ s
  rw [e2]
  exact wpAny_pure h
theorem getItem_back {t sl : Addr} {x y : Value} {tk : Tok} {Q : Value → Shared → Prop} (ht : IsTup s.heap t #[x, y]) (hs : s.heap.IsSliceOf sl .none .none (.int (-1) tk)) (h : Q (.ref s.heap.objs.size) { s with heap := s.heap.push { cls := .type "tuple", data := .seq #[y, x] } }) :
    wpAny (model prog w) A (getItem (.ref t) (.ref sl)) Q E s := by
  obtain ⟨os, hos, hcs, hds⟩ := id hs
  have hTs : s.TypeIs (.ref sl) "slice" := ⟨os, hos, hcs⟩
  unfold getItem
  try with_reducible refine wpAny_holding ?_
  first | refine wpAny_bind (wpAny_pure ?_) | skip
  refine wpAny_bind (wpAny_sequenceKey ht.typeIs (by decide) (wpAny_bind (wpAny_callSpecial?_slot (name := Str.ofString "__getitem__") ht.typeIs PyProof.Rows.slot_tuple_getitem (wpAny_call_entry PyProof.Rows.slot_tuple_getitem ht.typeIs PyProof.Rows.entry_tuple_getitem ?_ (PyProof.Rows.args_tuple_getitem _ _)))))
  show wpAny _ _ (Builtin.Tuple.tupleItemsOf (.ref t) >>= _) _ _ s
  refine wpAny_bind (tupleItemsOf_ ht (wpAny_bind (wpAny_typeOf hTs ?_)))
  rw [if_pos (by decide)]
  refine wpAny_bind (applied_back hs ?_)
  show wpAny _ _ (if ((1 : Int) == 0 && (-1 : Int) == 1 && (2 : Nat) == 2) = true then _ else _) _ _ s
  rw [if_neg (by decide)]
  have pk : ((List.range 2).filterMap fun (k : Nat) => (#[x, y] : Array Value)[((1 : Int) + (k : Int) * (-1)).toNat]?).toArray = #[y, x] := rfl
  rw [pk]
  first
    | exact wpAny_bind (m := Builtin.Tuple.tupleExact _) (wpAny_newObj_type (wpAny_pure ⟨_, rfl, wpAny_pure h⟩) (by show 2 ≤ sizeLine; decide))
    | exact wpAny_bind (m := Builtin.Tuple.tupleExact _) (wpAny_newObj_type (wpAny_bind (wpAny_pure (wpAny_pure ⟨_, rfl, wpAny_pure h⟩))) (by show 2 ≤ sizeLine; decide))
    | exact wpAny_bind (wpAny_bind (m := Builtin.Tuple.tupleExact _) (wpAny_newObj_type (wpAny_pure (wpAny_pure ⟨_, rfl, wpAny_pure h⟩)) (by show 2 ≤ sizeLine; decide)))
    | exact wpAny_bind (wpAny_bind (m := Builtin.Tuple.tupleExact _) (wpAny_newObj_type (wpAny_pure ⟨_, rfl, wpAny_pure h⟩) (by show 2 ≤ sizeLine; decide)))
end
section
variable {X : Cx}
def tBack (K : PySem.W.Frag) (te : TE) (ts : TO) : TE := fun σ H Q => te σ H fun x H1 => ts σ H1 fun o H2 => o = some (-1) ∧ ∃ a u v, x = .ref a ∧ SqT K H2 a [u, v] ∧ ∀ p, H2 p = none → Q (.ref p) (upd H2 p (.tup [v, u]))
theorem pe_back {e st : Expr} {te : TE} {ts : TO} {p2 pos : Pos} (he : PE X e te) (hs : PO X (some st) ts) : PE X (.Subscript e (.Slice none none (some st) p2) pos) (tBack X.K te ts) := by
  intro pins s σ H Q I h
  refine Subscript_ (thn (he pins s σ H _ I h) fun v s1 ⟨x, H1, I1, r1, q1⟩ => wpAny_Slice ?_)
  rw [evalPart_none]
  refine wpAny_pure (wpAny_pure (thn (hs pins s1 σ H1 _ I1 q1) fun vst s2 ⟨o, H2, I2, po, q2⟩ => ?_))
  obtain ⟨rfl, a, u1, u2, rfl, hq, k⟩ := q2
  cases r1
  obtain ⟨t, rfl⟩ : ∃ t, vst = .int (-1) t := by cases po; exact ⟨_, rfl⟩
  have I3 : Inv X pins σ H2 { s2 with heap := s2.heap.push { cls := .type "slice", data := .fields #[.none, .none, .int (-1) t] } } := I2.kept (t' := s2.toks) fun b ob q => Heap.get?_push_of_some _ q
  obtain ⟨its, r, ht, hz⟩ := I3.tuple hq
  obtain ⟨w1, w2, rfl, g1, g2⟩ := r.two
  show wpAny (model X.prog X.w) X.A (subscriptTail e (.Slice none none (some st) p2) (.ref a) (.ref s2.heap.objs.size)) (EP X pins σ Q) X.xe { s2 with heap := s2.heap.push { cls := .type "slice", data := .fields #[.none, .none, .int (-1) t] } }
  refine tail_any (ops := [.ref a, .ref s2.heap.objs.size]) ht.typeIs PyProof.Rows.slot_tuple_getitem.lookup (getItem_back ht (Heap.IsSliceOf.new ..) ?_) (by with_unfolding_all rfl)
  exact ⟨.ref _, _, I3.laid (t' := s2.toks) (o := .tup [u2, u1]) (fun b ob q => Heap.get?_push_of_some _ q) (Nat.le_refl _) ⟨by show 2 ≤ sizeLine; decide, [w2, w1], .cons g2 (.cons g1 .nil), TupX.new _ _⟩, rfl, k _ (I3.hok.fresh (Nat.le_refl _))⟩
end
end L2
end
section
set_option maxHeartbeats 4000001
namespace L2
open PySem PySem.Spec PyProof.Rows Own
/-! ### t.index(x): the first place that is equal -/
theorem meets_tidx (l : Addr) (o : Obj) (items : Array Value) (n : Nat) (x : Value) (j : Nat) (hc : o.cls = .type "tuple") (hd : o.data = .seq items n) (e : Nat → Bool) (h0 : ∀ i, i < j → e i = false) (h1 : e j = true) (hj : j < items.size) :
    Meets (Builtin.«tuple.index» ⟨[.ref l, x], []⟩) (fun A R s => s.heap.get? l = some o ∧ (∀ i (h : i < items.size), SeqAt.EqAt A.in1 s items[i] x (e i)) ∧ R (.ok (.ret (.int j s.toks))) { s with toks := s.toks + 1 }) :=
  .of_wp fun prog w A R s h => by
    cases s with
    | mk hp gs dr tk os =>
    obtain ⟨hl, he, h⟩ := h
    unfold Builtin.«tuple.index»
    simp only [Std.Legacy.Range.forIn_eq_forIn_range']
    wp_walk using wpAny_seqItems hl hd, wpAny_forIn_list _ (fun rest b s' => s' = ⟨hp, gs, dr, tk, os⟩ ∧ b.1 = none ∧ ∃ i, i ≤ j ∧ rest = List.range' i (items.size - i)) _
    case turn =>
      rintro i rest b s' ⟨rfl, hb, i', hi, hz⟩
      have hs : items.size - i' = (items.size - (i' + 1)) + 1 := by omega
      rw [hs, List.range'_succ] at hz
      injection hz with e1 e2
      subst e1
      have il : i < items.size := by omega
      have hg : items[i]? = some items[i] := by simp [il]
      simp only [hg]
      refine wpAny_bind (he i il prog w _ _ ?_)
      by_cases q : i = j
      · subst q; rw [h1]; wp_walk; exact ⟨_, rfl, h⟩
      · rw [h0 i (by omega)]; wp_walk; exact ⟨rfl, rfl, i + 1, by omega, e2⟩
    case fin =>
      rintro b s' ⟨rfl, hb, i', hi, hz⟩
      have := congrArg List.length hz
      simp at this
      omega
    case h => exact ⟨rfl, rfl, 0, Nat.zero_le _, by simp [Std.Legacy.Range.size]⟩
section
variable {X : Cx}
theorem idx_before : ∀ {ns : List Int} {k : Int} {i : Nat}, i < ns.idxOf k → (ns.getD i 0 == k) = false
  | [], k, i, h => by simp at h
  | n :: ns, k, i, h => by
    rw [List.idxOf_cons] at h
    cases e : n == k with
    | true => rw [e] at h; simp at h
    | false =>
      rw [e] at h
      simp only [cond_false] at h
      cases i with
      | zero => exact e
      | succ i => exact idx_before (ns := ns) (i := i) (by omega)
/-- t.index(e), t a tuple of ints that is there -/
def tTidx (to : TE) (t : TA) : TE := fun σ H Q => to σ H fun x H1 => ∃ a ns, x = .ref a ∧ H1 a = some (.tup (List.map V.int ns)) ∧ t σ H1 fun vs H2 => ∃ k : Int, vs = [.int k] ∧ H2 a = some (.tup (List.map V.int ns)) ∧ k ∈ ns ∧ Q (.int (ns.idxOf k : Nat)) H2
theorem pe_tidx {o e : Expr} {to : TE} {t : TA} {apos cpos : Pos} (hu : X.A.units + 64 < cLine) (ho : PE X o to) (ha : PA X [e] t)
    (hbase : attributeBase o "index" X.env (eval o X.env) = eval o X.env := by rfl)
    (hfew : ((backTo cpos (starEach [e] X.env)).all (fun x => !x.1) && (backToKw cpos (keywordEach [] X.env)).all (fun x => x.1.isSome) && decide ([e].length + ([] : List Keyword).length + (if ([] : List Keyword).isEmpty then 0 else 1) < 30)) = true := by rfl)
    (hline : (apos.endLine == cpos.line) = true := by rfl) (hs : starEach [e] X.env = (false, eval e X.env) :: starEach [] X.env := by rfl) : PE X (.Call (.Attribute o "index" apos) [e] [] cpos) (tTidx to t) := by
  intro pins s σ H Q I h
  refine wpAny_Call_method_late hbase hfew hline rfl (thn (ho pins s σ H _ I h) fun v s1 ⟨x, H1, I1, r1, a, ns, ex, hx, q1⟩ => ?_)
  subst ex
  cases r1
  obtain ⟨_, its, _, ⟨ob, eo, c1, n1, d1, nd⟩⟩ := (show ObjOk X.prog X.w H1 s1.heap a (.tup (List.map V.int ns)) from I1.hok a _ hx)
  refine ⟨"tuple", "tuple.index", PySem.F.plainAttrs_tuple, PySem.F.slot_tuple_index, PySem.F.type_tuple_index, ⟨ob, eo, c1⟩, fun a' e' => by cases e'; exact ⟨ob, eo, nd⟩, ?_⟩
  have hA := ha cpos pins s1 σ H1 _ I1 q1
  rw [hs] at hA ⊢
  refine Calls.callWith_builtin rfl (Calls.evalArgs_plain ?_)
  refine thn hA fun us s2 ⟨vs, H2, I2, r2, k, ev, hx2, km, q⟩ => ?_
  subst ev
  obtain ⟨u, rfl, tk, rfl⟩ := r2.one
  obtain ⟨_, jts, rj, ⟨ob2, eo2, c2, n2, d2, nd2⟩⟩ := (show ObjOk X.prog X.w H2 s2.heap a (.tup (List.map V.int ns)) from I2.hok a _ hx2)
  have hlen : jts.toArray.size = ns.length := by rw [List.size_toArray, ← rj.length, List.length_map]
  have hj := List.idxOf_lt_length_of_mem km
  refine call_meets PySem.F.slot_tuple_index ⟨ob2, eo2, c2⟩ PySem.F.entry_tuple_index (PySem.F.args_tuple_index_2 _ _)
    (meets_tidx a ob2 jts.toArray n2 (.int k tk) (ns.idxOf k) c2 d2 (fun i => ns.getD i 0 == k) (fun i hi => ?_) ?_ (by rw [hlen]; exact hj)) ⟨eo2, fun i hi => ?_, ?_⟩
  · exact idx_before hi
  · rw [List.getD_eq_getElem?_getD, List.getElem?_eq_getElem hj]
    simp
  · have hi' : i < ns.length := by rw [← hlen]; exact hi
    obtain ⟨w1, e1, t1, rfl⟩ := rj.get (show (List.map V.int ns)[i]? = some (V.int (ns.getD i 0)) by rw [List.getElem?_map, List.getD_eq_getElem?_getD, List.getElem?_eq_getElem hi']; rfl)
    have g1 : jts.toArray[i] = .int (ns.getD i 0) t1 := by simpa using (List.getElem?_eq_some_iff.mp e1).2
    rw [g1]
    exact (MeetsSeq.EqGives.int _ _ _ _).at _ _
  · exact ⟨.int _, H2, I2.tok _, ⟨_, rfl⟩, q⟩
end
end L2
end
section
set_option maxHeartbeats 4000001
namespace L2
open PySem PySem.Spec PyProof.Rows Own
/-! ### (x,) * k -/
theorem noFill_tmul : fillsNumberSlot (.type "tuple") "mul" = pure false :=
  PySem.fillsNumberSlot_seq (id := "tuple.__mul__") (r := some (.builtin "tuple.__rmul__")) F.slot_tuple_mul.lookup (by decide +kernel) F.slot_tuple_rmul.lookup (by decide +kernel)
theorem repeat_tup : seqRepeat? (.type "tuple") = pure (some (.builtin "tuple.__mul__")) := by
  unfold seqRepeat?; rw [PySem.seqSlot_of (T := "tuple") (name := "__mul__") (id := "tuple.__mul__") F.slot_tuple_mul.lookup (by decide +kernel), PySem.seqSlot_of (T := "tuple") (name := "__rmul__") (id := "tuple.__rmul__") F.slot_tuple_rmul.lookup (by decide +kernel)]; rfl
theorem declines (a : Int) (t : Tok) (l : Addr) (dd : Option Addr) (sl : Array (Option Value)) (items : Array Value) (n : Nat) :
    Meets (Builtin.«int.__rmul__» ⟨[.int a t, .ref l], []⟩) (fun _ R s => s.heap.get? l = some { cls := .type "tuple", dict := dd, data := .seq items n, slots := sl } ∧ R (.ok (.ret Value.notImplemented)) s) :=
  .of_wp fun prog w A R s h => by
    cases s; obtain ⟨hl, h⟩ := h
    wp_walk using AutoSeq1.wpAny_loadPart' hl
    exact ⟨_, rfl, h⟩
theorem meets_tmul (l : Addr) (o : Obj) (x : Value) (n k : Nat) (t : Tok) (hc : o.cls = .type "tuple") (hd : o.data = .seq #[x] n) (hk : k ≤ 100000) :
    Meets (Builtin.«tuple.__mul__» ⟨[.ref l, .int k t], []⟩) (fun _ R s => s.heap.get? l = some o ∧
      (k = 1 → R (.ok (.ret (.ref l))) s) ∧ (k ≠ 1 → R (.ok (.ret (.ref s.heap.objs.size))) { s with heap := s.heap.push { cls := .type "tuple", data := .seq (List.replicate k x).toArray } })) :=
  .of_wp fun prog w A R s h => by
    cases s with
    | mk hp gs dr tk os =>
    obtain ⟨hl, g1, g2⟩ := h
    have ty : Shared.TypeIs ⟨hp, gs, dr, tk, os⟩ (.ref l) "tuple" := ⟨o, hl, hc⟩
    wp_walk using wpAny_seqItems hl hd, wpAny_typeOf ty
    have c1 : ¬ (decide ((k : Int) < -2 ^ 63) || decide ((k : Int) ≥ 2 ^ 63)) = true := by
      rw [decide_eq_false (by omega), decide_eq_false (by omega)]; exact Bool.false_ne_true
    rw [if_neg c1]
    wp_walk using wpAny_seqItems hl hd, wpAny_typeOf ty
    by_cases k1 : k = 1
    · have c2 : ((#[x] : Array Value).isEmpty || (k : Int) == 1) = true := by subst k1; rfl
      rw [if_pos c2]
      wp_walk using wpAny_typeOf ty
      exact ⟨_, rfl, g1 k1⟩
    · have c2 : ¬ ((#[x] : Array Value).isEmpty || (k : Int) == 1) = true := by
        have : ((k : Int) == 1) = false := by rw [beq_eq_false_iff_ne]; omega
        rw [this]; exact Bool.false_ne_true
      rw [if_neg c2]
      have fl : ∀ (m : Nat) (acc : Array Value), (List.foldl (fun x1 x2 => x1 ++ x2) acc (List.replicate m #[x])) = acc ++ (List.replicate m x).toArray := fun m => by
        induction m with
        | zero => intro acc; simp
        | succ m ih => intro acc; rw [List.replicate_succ, List.foldl_cons, ih, List.replicate_succ]; apply Array.ext'; simp
      by_cases k0 : k = 0
      · subst k0
        have c3 : (decide (((0 : Nat) : Int) ≤ 0) || (#[x] : Array Value).isEmpty) = true := rfl
        rw [if_pos c3]
        wp_walk
        exact ⟨_, rfl, g2 (by decide)⟩
      · have c3 : ¬ (decide ((k : Int) ≤ 0) || (#[x] : Array Value).isEmpty) = true := by
          rw [decide_eq_false (by omega)]; exact Bool.false_ne_true
        have c4 : ¬ (((#[x] : Array Value).size : Int) * (k : Int) > (2 ^ 63 - 1) / 8) := by
          show ¬ ((1 : Int) * (k : Int) > (2 ^ 63 - 1) / 8)
          omega
        have c5 : ¬ Builtin.Tuple.tupleTooMany (((#[x] : Array Value).size : Int) * (k : Int)) = true := by
          unfold Builtin.Tuple.tupleTooMany
          show ¬ decide ((1 : Int) * (k : Int) > (sizeLine : Int)) = true
          rw [decide_eq_false (by rw [sizeLine_eq]; omega)]; exact Bool.false_ne_true
        rw [if_neg c3, if_neg c4, if_neg c5, Int.toNat_natCast, fl]
        refine wpAny_bind (m := Builtin.Tuple.tupleExact _) (wpAny_newObj_type (wpAny_pure ⟨_, rfl, ?_⟩) ?_)
        · have e : (#[] ++ (List.replicate k x).toArray : Array Value) = (List.replicate k x).toArray := by simp
          rw [e]; exact g2 k1
        · show (#[] ++ (List.replicate k x).toArray : Array Value).size ≤ sizeLine
          rw [sizeLine_eq]; simp; omega
section
variable {X : Cx}
theorem Vals.same {v : V} {u : Value} (r : RelV v u) : ∀ k : Nat, Vals (List.replicate k v) (List.replicate k u)
  | 0 => .nil
  | k + 1 => by rw [List.replicate_succ, List.replicate_succ]; exact .cons r (Vals.same r k)
theorem op_rep1 : OpR X (binaryOp .Mult) (fun x y H Q => ∃ a v, ∃ k : Nat, x = .ref a ∧ y = .int k ∧ H a = some (.tup [v]) ∧ k ≤ 100000 ∧ ∀ r H', Same H H' → H' r = some (.tup (List.replicate k v)) → Q (.ref r) H') := by
  intro pins s σ H x y vx vy Q I rx ry h
  obtain ⟨a, v, k, rfl, rfl, ha, hk, q⟩ := h
  cases rx
  obtain ⟨t, rfl⟩ := ry
  obtain ⟨_, its, r, ⟨⟨c, dd, d, sl⟩, eo, c1, n1, d1, nd⟩⟩ := (show ObjOk X.prog X.w H s.heap a (.tup [v]) from I.hok a _ ha)
  simp only at c1 d1 nd
  subst c1 d1 nd
  obtain ⟨u, rfl, ru⟩ := r.one
  refine wpAny_binaryOp_repeat_ref (T := "tuple") (U := "int") (by decide) ⟨_, eo, rfl⟩ (fun s' => typeIs_int s' k t) noFill_tmul F.fills_int_mul F.slot_int_rmul repeat_tup F.slot_int_index.lookup
    (call_meets F.slot_int_rmul (typeIs_int s k t) F.entry_int_rmul (F.args_int_rmul_2 _ _) (declines k t a none sl _ n1)
      ⟨eo, rfl, ⟨_, eo, rfl⟩, call_meets F.slot_tuple_mul ⟨_, eo, rfl⟩ F.entry_tuple_mul (F.args_tuple_mul_2 _ _) (meets_tmul a _ u n1 k t rfl rfl hk) ⟨eo, fun e => ?_, fun e => ?_⟩⟩)
  · subst e
    exact ⟨.ref a, H, I, rfl, q a H (Same.refl H) ha⟩
  · have hz : (List.replicate k v).length ≤ sizeLine := by rw [List.length_replicate, sizeLine_eq]; omega
    exact ⟨.ref s.heap.objs.size, _, I.laid (t' := s.toks) (o := .tup (List.replicate k v)) (fun b ob z => Heap.get?_push_of_some _ z) (Nat.le_refl _) ⟨hz, _, Vals.same ru k, TupX.new _ _⟩, rfl, q _ _ (same_new (I.hok.fresh (Nat.le_refl _)) _) upd_same⟩
end
end L2
end
section
set_option maxHeartbeats 4000001
namespace L2
open PySem PySem.Spec PyProof.Rows Own
/-! ### == and != of data that is the same, tuples in tuples -/
def DEq (K : PySem.W.Frag) (H : Hp) : Nat → V → V → Prop
  | 0, x, y => x = y ∧ flatV x = true
  | n + 1, x, y => (x = y ∧ flatV x = true) ∨ ∃ a b xs ys, x = .ref a ∧ y = .ref b ∧ SqT K H a xs ∧ SqT K H b ys ∧ xs.length = ys.length ∧ ∀ (i : Nat) (u v : V), xs[i]? = some u → ys[i]? = some v → DEq K H n u v
section
variable {X : Cx}
theorem eqV_self {x : V} (h : flatV x = true) : eqV x x = true := by
  cases x <;> first | rfl | (simp [eqV]; done) | exact absurd (show false = true from h) Bool.false_ne_true
theorem all_true (n : Nat) : (List.range n).all (fun _ => true) = true := by rw [List.all_eq_true]; intro _ _; rfl
theorem eqAt_flat {A : Around} {s : Shared} {x : V} {u v : Value} (f : flatV x = true) (r1 : RelV x u) (r2 : RelV x v) : SeqAt.EqAt A s u v true := by
  have := eqAt_V (A := A) (s := s) r1 r2 f f
  rwa [eqV_self f] at this
theorem eqAt_D {pins : List (Addr × Obj)} {σ : St} {H : Hp} {s : Shared} (I : Inv X pins σ H s) : ∀ (n : Nat) (A : Around) (x y : V) (u v : Value), A.units + n < cLine → DEq X.K H n x y → RelV x u → RelV y v → SeqAt.EqAt A s u v true
  | 0, A, x, y, u, v, _, ⟨e, f⟩, r1, r2 => by subst e; exact eqAt_flat f r1 r2
  | n + 1, A, x, y, u, v, hu, h, r1, r2 => by
    rcases h with ⟨e, f⟩ | ⟨a, b, xs, ys, rfl, rfl, h1, h2, hl, hx⟩
    · subst e; exact eqAt_flat f r1 r2
    · cases r1; cases r2
      by_cases ab : a = b
      · subst ab; exact SeqAt.EqAt.same _
      · obtain ⟨its, g1, p1, _⟩ := I.tuple h1
        obtain ⟨jts, g2, p2, _⟩ := I.tuple h2
        have l1 := g1.length
        have l2 := g2.length
        refine SeqAt.EqAt.of_refs ab ?_
        have := SeqAt.RcAt.tuples (e := fun _ => true) p1 p2 (A := A) (s := s) (by omega) (fun j k1 k2 => ?_)
        · rw [all_true, List.size_toArray, List.size_toArray, ← l1, ← l2, hl] at this
          simpa using this
        · have k1' : j < xs.length := by simpa [l1] using k1
          have k2' : j < ys.length := by simpa [l2] using k2
          obtain ⟨w1, e1, q1⟩ := g1.get (List.getElem?_eq_getElem k1')
          obtain ⟨w2, e2, q2⟩ := g2.get (List.getElem?_eq_getElem k2')
          have z1 : its.toArray[j] = w1 := by simpa using (List.getElem?_eq_some_iff.mp e1).2
          have z2 : jts.toArray[j] = w2 := by simpa using (List.getElem?_eq_some_iff.mp e2).2
          rw [z1, z2]
          exact eqAt_D I n A.in1 _ _ _ _ (by show A.units + 1 + n < cLine; omega) (hx j _ _ (List.getElem?_eq_getElem k1') (List.getElem?_eq_getElem k2')) q1 q2
/-- two tuples, the same n deep -/
def rSameD (K : PySem.W.Frag) (c : Bool) : R2 := fun x y H Q => ∃ n a b xs ys, n ≤ 20 ∧ x = .ref a ∧ y = .ref b ∧ SqT K H a xs ∧ SqT K H b ys ∧ xs.length = ys.length ∧ (∀ (i : Nat) (u v : V), xs[i]? = some u → ys[i]? = some v → DEq K H n u v) ∧ Q (.bl c) H
theorem op_neD (hu : X.A.units + 64 < cLine) : OpR X (compareOp .NotEq) (rSameD X.K false) := by
  intro pins s σ H x y vx vy Q I rx ry h
  obtain ⟨n, a, b, xs, ys, hn, rfl, rfl, h1, h2, hl, hx, q⟩ := h
  cases rx; cases ry
  obtain ⟨its, g1, p1, _⟩ := I.tuple h1
  obtain ⟨jts, g2, p2, _⟩ := I.tuple h2
  have l1 := g1.length
  have l2 := g2.length
  refine SeqAt.RcNeAt.tuples (e := fun _ => true) p1 p2 (by omega) (fun j k1 k2 => ?_) X.prog X.w _ _ ?_
  · have k1' : j < xs.length := by simpa [l1] using k1
    have k2' : j < ys.length := by simpa [l2] using k2
    obtain ⟨w1, e1, q1⟩ := g1.get (List.getElem?_eq_getElem k1')
    obtain ⟨w2, e2, q2⟩ := g2.get (List.getElem?_eq_getElem k2')
    have z1 : its.toArray[j] = w1 := by simpa using (List.getElem?_eq_some_iff.mp e1).2
    have z2 : jts.toArray[j] = w2 := by simpa using (List.getElem?_eq_some_iff.mp e2).2
    rw [z1, z2]
    exact eqAt_D I n _ _ _ _ _ (by show X.A.units + 1 + n < cLine; omega) (hx j _ _ (List.getElem?_eq_getElem k1') (List.getElem?_eq_getElem k2')) q1 q2
  · rw [all_true, List.size_toArray, List.size_toArray, ← l1, ← l2, hl]
    refine ⟨.bl false, H, I, ?_, q⟩
    show Value.bool _ = Value.bool false
    simp
theorem op_eqD (hu : X.A.units + 64 < cLine) : OpR X (compareOp .Eq) (rSameD X.K true) := by
  intro pins s σ H x y vx vy Q I rx ry h
  obtain ⟨n, a, b, xs, ys, hn, rfl, rfl, h1, h2, hl, hx, q⟩ := h
  cases rx; cases ry
  obtain ⟨its, g1, p1, _⟩ := I.tuple h1
  obtain ⟨jts, g2, p2, _⟩ := I.tuple h2
  have l1 := g1.length
  have l2 := g2.length
  refine SeqAt.RcAt.tuples (e := fun _ => true) p1 p2 (by omega) (fun j k1 k2 => ?_) X.prog X.w _ _ ?_
  · have k1' : j < xs.length := by simpa [l1] using k1
    have k2' : j < ys.length := by simpa [l2] using k2
    obtain ⟨w1, e1, q1⟩ := g1.get (List.getElem?_eq_getElem k1')
    obtain ⟨w2, e2, q2⟩ := g2.get (List.getElem?_eq_getElem k2')
    have z1 : its.toArray[j] = w1 := by simpa using (List.getElem?_eq_some_iff.mp e1).2
    have z2 : jts.toArray[j] = w2 := by simpa using (List.getElem?_eq_some_iff.mp e2).2
    rw [z1, z2]
    exact eqAt_D I n _ _ _ _ _ (by show X.A.units + 1 + n < cLine; omega) (hx j _ _ (List.getElem?_eq_getElem k1') (List.getElem?_eq_getElem k2')) q1 q2
  · rw [all_true, List.size_toArray, List.size_toArray, ← l1, ← l2, hl]
    refine ⟨.bl true, H, I, ?_, q⟩
    show Value.bool _ = Value.bool true
    simp
end
end L2
end
section
set_option maxHeartbeats 4000001
namespace L2
open PySem PySem.Spec PyProof.Rows Own
section
variable {prog : Program} {w : World} {A : Around} {E : Value → Shared → Prop} {s : Shared}
/-! ### a slice that is the whole tuple is the tuple -/
theorem getItem_all {t sl : Addr} {items : Array Value} {vl vu : Value} {lo hi : Option Int} {Q : Value → Shared → Prop} (ht : IsTup s.heap t items) (hs : s.heap.IsSliceOf sl vl vu .none) (pl : IsPart vl lo) (pu : IsPart vu hi)
    (e0 : HT.sIx items.size 0 lo = 0) (e1 : HT.sIx items.size items.size hi = items.size) (h : Q (.ref t) s) : wpAny (model prog w) A (getItem (.ref t) (.ref sl)) Q E s := by
  obtain ⟨os, hos, hcs, hds⟩ := id hs
  have hTs : s.TypeIs (.ref sl) "slice" := ⟨os, hos, hcs⟩
  unfold getItem
  try with_reducible refine wpAny_holding ?_
  first | refine wpAny_bind (wpAny_pure ?_) | skip
  refine wpAny_bind (wpAny_sequenceKey ht.typeIs (by decide) (wpAny_bind (wpAny_callSpecial?_slot (name := Str.ofString "__getitem__") ht.typeIs PyProof.Rows.slot_tuple_getitem (wpAny_call_entry PyProof.Rows.slot_tuple_getitem ht.typeIs PyProof.Rows.entry_tuple_getitem ?_ (PyProof.Rows.args_tuple_getitem _ _)))))
  show wpAny _ _ (Builtin.Tuple.tupleItemsOf (.ref t) >>= _) _ _ s
  refine wpAny_bind (tupleItemsOf_ ht (wpAny_bind (wpAny_typeOf hTs ?_)))
  rw [if_pos (by decide)]
  refine wpAny_bind (HT.sliceApplied_gen hs pl pu ?_)
  rw [e0, e1]
  show wpAny _ _ (if (((0 : Nat) : Int) == 0 && (1 : Int) == 1 && (items.size - 0) == items.size) = true then _ else _) _ _ s
  rw [if_pos (by simp)]
  refine wpAny_bind ?_
  unfold Builtin.Tuple.tupleIsExact
  refine wpAny_bind (wpAny_typeOf ht.typeIs (wpAny_pure ?_))
  rw [if_pos (by decide)]
  exact wpAny_bind (wpAny_rule (wpAny_pure ⟨_, rfl, wpAny_pure h⟩))
end
section
variable {X : Cx}
theorem pe_backK {e st : Expr} {te : TE} {ts : TO} {p2 pos : Pos} {K : PySem.W.Frag} (hK : X.K = K) (he : PE X e te) (hs : PO X (some st) ts) : PE X (.Subscript e (.Slice none none (some st) p2) pos) (tBack K te ts) := hK ▸ pe_back he hs
/-- t == (), any t -/
theorem op_eqE (hu : X.A.units + 64 < cLine) : OpR X (compareOp .Eq) (fun x y H Q => ∃ a b xs, x = .ref a ∧ y = .ref b ∧ SqT X.K H a xs ∧ SqT X.K H b [] ∧ Q (.bl (xs.isEmpty)) H) := by
  intro pins s σ H x y v u Q I rx ry h
  obtain ⟨a, b, xs, rfl, rfl, ha, hb, q⟩ := h
  cases rx; cases ry
  obtain ⟨its, r1, p1, _⟩ := I.tuple ha
  obtain ⟨jts, r2, p2, _⟩ := I.tuple hb
  cases r2
  have l1 := r1.length
  refine SeqAt.RcAt.tuples (e := fun _ => true) p1 p2 (by omega) (fun j k1 k2 => absurd k2 (Nat.not_lt_zero _)) X.prog X.w _ _ ?_
  refine ⟨.bl xs.isEmpty, H, I, ?_, q⟩
  rw [all_true, List.size_toArray, ← l1]
  show Value.bool _ = Value.bool _
  cases xs <;> simp
/-- t[lo:hi], the whole or a part -/
def rSlA (K : PySem.W.Frag) : V → Option Int → Option Int → Hp → VK → Prop := fun x lo hi H Q => ∃ a xs, x = .ref a ∧ SqT K H a xs ∧ ∀ p H', Same H H' → SqT K H' p (cutV xs lo hi) → Q (.ref p) H'
theorem sl_tupA : SlR X (rSlA X.K) := by
  intro pins s σ H x v vl vu lo hi sl Q I rx hs pl pu h
  obtain ⟨a, xs, rfl, hx, q⟩ := h
  by_cases hw : HT.sIx xs.length 0 lo = 0 ∧ HT.sIx xs.length xs.length hi = xs.length
  · cases rx
    obtain ⟨its, r, ht, hz⟩ := I.tuple hx
    have hlen : its.toArray.size = xs.length := by rw [List.size_toArray]; exact r.length.symm
    refine ⟨"tuple", _, PyProof.Rows.slot_tuple_getitem.lookup, ht.typeIs, getItem_all ht hs pl pu (by rw [hlen]; exact hw.1) (by rw [hlen]; exact hw.2) ⟨.ref a, H, I, rfl, q a H (Same.refl H) ?_⟩⟩
    unfold cutV
    rw [hw.1, hw.2, List.drop_zero, Nat.sub_zero, List.take_length]
    exact hx
  · exact sl_tup pins s σ H _ v vl vu lo hi sl Q I rx hs pl pu ⟨a, xs, rfl, hx, hw, fun p hp => q p _ (same_new hp _) (SqT.of upd_same)⟩
end
end L2
end
section
set_option maxHeartbeats 4000001
namespace L2
open PySem PySem.Spec PyProof.Rows Own
/-! ### max(xs, default=d) of ints -/
section
variable {prog : Program} {w : World} {A : Around} {R : Result → Shared → Prop} {I S : Addr} {fp wr : List Addr} {n : Nat} {P B : Nat → Value → Prop} {St : Nat → Heap → Prop}
/-- the best so far, twice, or nothing yet -/
def BestAt (B : Nat → Value → Prop) (j : Nat) (its : Array Value) : Prop := (j = 0 ∧ its = #[]) ∨ (0 < j ∧ ∃ v, its = #[v, v] ∧ B j v)
theorem maxD_loop (W : Walks prog w A.in1 I fp wr n P St) (away : S ∉ fp) (d : Value) (first : ∀ v, P 0 v → B 1 v)
    (more : ∀ j v b (s : Shared) (Q : Value → Shared → Prop) (E : Value → Shared → Prop), 0 < j → P j v → B j b → (∀ c, B (j + 1) (if c = true then v else b) → Q (.bool c) s) → wpAny (model prog w) A.in1 (richCompare .Gt v b) Q E s) :
    ∀ (m j : Nat) (s : Shared) (its : Array Value) (c : Nat), j + m = n → St j s.heap → s.heap.get? S = some { cls := .type "list", dict := none, data := .seq its c, slots := #[] } → BestAt B j its →
      (∀ v h' tk, (n = 0 ∧ v = d ∨ 0 < n ∧ B n v) → (∀ b o, b ∉ wr → b ≠ S → s.heap.get? b = some o → h'.get? b = some o) → R (.ok (.ret v)) { s with heap := h', toks := tk }) →
      codeAny (model prog w) A (.builtin "max.loop" ⟨[.ref I, .none, .ref S], [("default", d)]⟩) R s := by
  have out : S ∉ wr := fun z => away (W.sub _ z)
  have nm : (toString "max" ++ toString ".loop" : String) = "max.loop" := by decide
  intro m
  induction m with
  | zero =>
    intro j s its c jm st hs best k
    obtain rfl : j = n := by omega
    refine codeAny_builtin F.entry_max_loop (by
      refine Around.under_plainId F.plain_max_loop _ ▸ (show wpAny _ A.in1 (seqItems? (.ref S) >>= _) _ _ _ from ?_)
      refine wpAny_bind (wpAny_seqItems hs rfl (show wpAny _ A.in1 (tryCatch (pyNext (.ref I)) _ >>= _) _ _ _ from wpAny_bind (wpAny_tryCatch (W.done s _ _ st fun h1 tk1 keep => ?_))))
      have hs1 := keep S _ out hs
      rcases best with ⟨j0, rfl⟩ | ⟨jp, v, rfl, bv⟩
      · exact wpAny_bind (wpAny_rule (wpAny_pure (k d _ tk1 (.inl ⟨j0, rfl⟩) fun b o hb _ e => keep b o hb e)))
      · show wpAny _ A.in1 (updateSeq S (fun _ => #[]) >>= _) _ _ _
        exact wpAny_bind (wpAny_updateSeq hs1 rfl (wpAny_bind (wpAny_letGo (wpAny_pure (k v _ tk1 (.inr ⟨jp, bv⟩) fun b o hb bS e => (Heap.get?_update_other _ _ (Ne.symm bS)).trans (keep b o hb e)))))))
  | succ m ih =>
    intro j s its c jm st hs best k
    refine codeAny_builtin F.entry_max_loop (by
      refine Around.under_plainId F.plain_max_loop _ ▸ (show wpAny _ A.in1 (seqItems? (.ref S) >>= _) _ _ _ from ?_)
      refine wpAny_bind (wpAny_seqItems hs rfl (show wpAny _ A.in1 (tryCatch (pyNext (.ref I)) _ >>= _) _ _ _ from wpAny_bind (wpAny_tryCatch (W.item j s _ _ (by omega) st fun v h1 tk1 pv st1 keep => ?_))))
      have hs1 := keep S _ out hs
      rcases best with ⟨rfl, rfl⟩ | ⟨jp, b0, rfl, bb⟩
      · show wpAny _ A.in1 (updateSeq S (fun _ => #[v, v]) >>= _) _ _ _
        refine wpAny_bind (wpAny_updateSeq hs1 rfl ?_)
        rw [nm]
        exact wpAny_pure ⟨plainId_quiet F.plain_max_loop _, ih 1 _ _ _ (by omega) (W.frame _ _ _ st1 fun b hb o e => (Heap.get?_update_other _ _ (fun z : S = b => away (z ▸ hb))).trans e) (Heap.get?_update_self _ hs1 rfl) (.inr ⟨Nat.one_pos, v, rfl, first v pv⟩) fun v' h2 tk2 hv keep2 => k v' h2 tk2 hv fun b o hb bS e => keep2 b o hb bS ((Heap.get?_update_other _ _ (Ne.symm bS)).trans (keep b o hb e))⟩
      · show wpAny _ A.in1 (tryCatch (holding [v, v] (richCompare .Gt v b0 >>= _)) _ >>= _) _ _ _
        refine wpAny_bind (wpAny_tryCatch (wpAny_holding (wpAny_bind (more j v b0 _ _ _ jp pv bb fun yes by' => wpAny_bind (wpAny_holding (wpAny_truthy_bool (wpAny_bind (wpAny_letGo (wpAny_pure ?_)))))))))
        cases yes
        · rw [if_neg Bool.false_ne_true] at by'
          rw [if_neg Bool.false_ne_true]
          refine wpAny_bind (wpAny_letGo ?_)
          rw [nm]
          exact wpAny_pure ⟨plainId_quiet F.plain_max_loop _, ih (j + 1) _ _ _ (by omega) st1 hs1 (.inr ⟨Nat.succ_pos _, b0, rfl, by'⟩) fun v' h2 tk2 hv keep2 => k v' h2 tk2 hv fun b o hb bS e => keep2 b o hb bS (keep b o hb e)⟩
        · rw [if_pos rfl] at by'
          simp only [if_true]
          refine wpAny_bind (wpAny_updateSeq hs1 rfl (wpAny_bind (wpAny_letGo ?_)))
          rw [nm]
          exact wpAny_pure ⟨plainId_quiet F.plain_max_loop _, ih (j + 1) _ _ _ (by omega) (W.frame _ _ _ st1 fun b hb o e => (Heap.get?_update_other _ _ (fun z : S = b => away (z ▸ hb))).trans e) (Heap.get?_update_self _ hs1 rfl) (.inr ⟨Nat.succ_pos _, v, rfl, by'⟩) fun v' h2 tk2 hv keep2 => k v' h2 tk2 hv fun b o hb bS e => keep2 b o hb bS ((Heap.get?_update_other _ _ (Ne.symm bS)).trans (keep b o hb e))⟩)
end
section
variable {prog : Program} {w : World} {A : Around} {E : Value → Shared → Prop} {s : Shared}
theorem fits_maxD (a d : Value) : argsOk "max" ⟨[a], [("default", d)]⟩ := by unfold argsOk; kernel_rfl
theorem maxD_bound (d : Value) : Builtin.Builtins.bindParams "max" ["key", "default"] 0 ⟨[], [("default", d)]⟩ = pure [none, some d] := by kernel_rfl
theorem maxD_walk {x d : Value} {Q : Value → Shared → Prop}
    (h : wpAny (model prog w) A.in1 (pyIter x) (fun it s2 => ∃ (I : Addr) (fp wr : List Addr) (n : Nat) (P B : Nat → Value → Prop) (St : Nat → Heap → Prop), it = .ref I ∧ Walks prog w A.in1 I fp wr n P St ∧ St 0 s2.heap ∧ (∀ b ∈ fp, b < s2.heap.objs.size) ∧ (∀ v, P 0 v → B 1 v) ∧
      (∀ j v b (s : Shared) (Q : Value → Shared → Prop) (E : Value → Shared → Prop), 0 < j → P j v → B j b → (∀ c, B (j + 1) (if c = true then v else b) → Q (.bool c) s) → wpAny (model prog w) A.in1 (richCompare .Gt v b) Q E s) ∧
      ∀ v h' tk, (n = 0 ∧ v = d ∨ 0 < n ∧ B n v) → (∀ b o, b ∉ wr → s2.heap.get? b = some o → h'.get? b = some o) → Q v { s2 with heap := h', toks := tk }) E s) :
    wpAny (model prog w) A (call (.builtin "max") [x] [("default", d)]) Q E s := by
  have nm : (toString "max" ++ toString ".loop" : String) = "max.loop" := by decide
  refine wpAny_call (codeAny_call_builtin F.plain_max F.entry_max ?_)
  simp only [checkBuiltinCall, F.kind_max]
  have body : wpAny (model prog w) A.in1 (Builtin.«max» ⟨[x], [("default", d)]⟩) (fun fin s' => match fin with | .done f => (match (Except.ok f : Result) with | .ok (.ret v) => Q v s' | .ok _ => False | .error e => E e s') | .again c' => c'.quiet = true ∧ codeAny (model prog w) A c' (fun r s' => match r with | .ok (.ret v) => Q v s' | .ok _ => False | .error e => E e s') s') E s := by
    show wpAny _ A.in1 (Builtin.Builtins.bindParams "max" ["key", "default"] 0 ⟨[], [("default", d)]⟩ >>= _) _ _ _
    refine wpAny_bind (wpAny_of_eq (maxD_bound d) (wpAny_bind (wpAny_pure (wpAny_bind (wpAny_mono h (fun it s2 z => ?_) fun _ _ e => e)))))
    obtain ⟨I, fp, wr, n, P, B, St, rfl, W, st, low, first, more, k⟩ := z
    refine wpAny_bind (wpAny_newObj_type (by rw [nm]; exact wpAny_pure ⟨plainId_quiet F.plain_max_loop _, maxD_loop W (fun z => Nat.lt_irrefl _ (low _ z)) d first more n 0 _ _ _ (by omega) (W.frame _ _ _ st fun b _ o e => Heap.get?_push_of_some _ e) (Heap.get?_push_size _ rfl) (.inl ⟨rfl, rfl⟩) fun v h' tk hv keep => k v h' tk hv fun b o hb e => keep b o hb (Nat.ne_of_lt (Heap.lt_size e)) (Heap.get?_push_of_some _ e)⟩))
  have fits := fits_maxD x d
  cases sg : Manifest.signature? "max" with
  | none => exact wpAny_pure body
  | some g =>
    simp only [argsOk, sg] at fits
    have fits' : Bind.checkArgs "max" g ⟨[x], [("default", d)]⟩ = pure () := fits
    show wpAny _ A.in1 (Bind.checkArgs "max" g ⟨[x], [("default", d)]⟩) _ _ _
    rw [fits']; exact wpAny_pure body
end
section
variable {X : Cx} {e e2 : Expr} {ta tb : TE} {p kp pos : Pos}
def rMaxD (K : PySem.W.Frag) (b : Bool) : R2 := fun x y H Q => ∃ a ns d, x = .ref a ∧ y = .int d ∧ SqB b K H a (List.map V.int ns) ∧ (ns = [] → Q (.int d) H) ∧ (ns ≠ [] → ∀ M, M ∈ ns → (∀ z ∈ ns, z ≤ M) → Q (.int M) H)
/-- the greatest of the first j -/
def Top (ns : List Int) (j : Nat) (v : Value) : Prop := ∃ (M : Int) (t : Tok), v = .int M t ∧ M ∈ ns ∧ ∀ i, i < j → ns.getD i 0 ≤ M
def on1 (f : V → Hp → Prop) : List V → Hp → Prop
  | [x], H => f x H
  | _, _ => False
theorem on1_is {f : V → Hp → Prop} : ∀ {vs : List V} {H : Hp}, on1 f vs H → ∃ x, vs = [x] ∧ f x H
  | [x], _, h => ⟨x, rfl, h⟩
theorem pe_maxD (b : Bool) (hc : X.calm = true) (hg : Gl X "max") (hm : X.mg "max" = none) (ha : PE X e ta) (hd : PE X e2 tb)
    (he : starEach [e] X.env = (false, eval e X.env) :: starEach [] X.env := by rfl)
    (hpl : ((backTo pos (starEach [e] X.env)).any (·.1) || (backToKw pos (keywordEach [⟨some "default", e2, kp⟩] X.env)).any (·.1.isNone)) = false := by rfl)
    (hall : (backToKw pos (keywordEach [⟨some "default", e2, kp⟩] X.env)).all (·.1.isSome) = true := by rfl) (hks : (backToKw pos (keywordEach [⟨some "default", e2, kp⟩] X.env)).filterMap (·.1) = [("default" : Str)] := by rfl) :
    PE X (.Call (.Name "max" p) [e] [⟨some "default", e2, kp⟩] pos) (tOp (rMaxD X.K b) ta tb) := by
  intro pins s σ H Q I h
  refine wpAny_Call_Name_kw (ld_blt I hg hm (u := .builtin "max") (by rfl) ?_)
  refine PySem.W.callWith_of (P := fun _ => True) hpl (fun h _ => ⟨.machine, .inr (.inl rfl), .now⟩) (evalArgs_kw2 hall (thn ((pa_cons (hs := he) ha pa_nil) pos pins s σ H (on1 fun x H1 => tb σ H1 fun y H2 => rMaxD X.K b x y H2 Q) I h) fun us s1 ⟨vs, H1, I1, r1, q1⟩ => ?_) he)
  · obtain ⟨x, rfl, q1⟩ := on1_is q1
    refine thn ((pk_cons hd pk_nil) pos pins s1 σ H1 (on1 fun y H2 => rMaxD X.K b x y H2 Q) I1 q1) fun ws s2 ⟨zs, H2, I2, r2, q2⟩ => ⟨trivial, ?_⟩
    · obtain ⟨y, rfl, q2⟩ := on1_is q2
      obtain ⟨u, rfl, ru⟩ := r1.one
      obtain ⟨v, rfl, rv⟩ := r2.one
      rw [hks]
      obtain ⟨a, ns, d, rfl, rfl, hq, q0, qm⟩ := q2
      obtain ⟨td, rfl⟩ := rv
      cases ru
      obtain ⟨its, r, p⟩ := I2.sq hq
      obtain ⟨o, n, eo, _⟩ := p.ob
      have hl : its.length = ns.length := by rw [← r.length, List.length_map]
      show wpAny _ _ (call (.builtin "max") [.ref a] [("default", .int d td)]) _ _ _
      refine maxD_walk (iter_of p ⟨s2.heap.objs.size, [s2.heap.objs.size, a], [s2.heap.objs.size], its.toArray.size, (fun i v => its.toArray[i]? = some v), Top ns, _, rfl, walkB (show X.A.in1.handled = none from I2.ok.hd hc) b _ a (Nat.ne_of_lt (Heap.lt_size eo)) its.toArray, ⟨?_, p.mv fun o e => Heap.get?_push_of_some _ e⟩, fun c hm => ?_, fun v hv => ?_, ?_, ?_⟩)
      · cases b <;> exact ⟨_, Heap.get?_push_size _ rfl, rfl, rfl⟩
      · show c < (s2.heap.push _).objs.size
        rw [Heap.size_push]
        rcases List.mem_cons.mp hm with z | z
        · exact z ▸ Nat.lt_succ_self _
        · exact (List.mem_singleton.mp z) ▸ Nat.lt_succ_of_lt (Heap.lt_size eo)
      · obtain ⟨l0, t, rfl⟩ := num_at r (i := 0) (by simpa using hv)
        exact ⟨_, t, rfl, getD_mem l0, fun i hi => by obtain rfl : i = 0 := by omega
                                                      exact Int.le_refl _⟩
      · intro j v bv s' Q' E' jp hv ⟨M, t, e1, mem, top⟩ kk
        subst e1
        obtain ⟨lj, t', rfl⟩ := num_at r (i := j) (by simpa using hv)
        refine gt_int (kk _ ?_)
        by_cases g : ns.getD j 0 > M
        · rw [decide_eq_true g, if_pos rfl]
          refine ⟨_, t', rfl, getD_mem lj, fun i hi => ?_⟩
          by_cases z : i = j
          · rw [z]; exact Int.le_refl _
          · have := top i (by omega); omega
        · rw [decide_eq_false g, if_neg Bool.false_ne_true]
          refine ⟨M, t, rfl, mem, fun i hi => ?_⟩
          by_cases z : i = j
          · rw [z]; omega
          · exact top i (by omega)
      · intro v h' tk hv hk
        have I3 := I2.kept (t' := tk) (h' := h') fun c o e => hk c o (fun z => Nat.ne_of_lt (Heap.lt_size e) (List.mem_singleton.mp z)) (Heap.get?_push_of_some _ e)
        rw [List.size_toArray, hl] at hv
        rcases hv with ⟨n0, rfl⟩ | ⟨np, M, t, rfl, mem, top⟩
        · exact ⟨.int d, H2, I3, ⟨td, rfl⟩, q0 (List.length_eq_zero_iff.mp n0)⟩
        · refine ⟨.int M, H2, I3, ⟨t, rfl⟩, qm (by rintro rfl; simp at np) M mem fun z hz => ?_⟩
          obtain ⟨i, hi, rfl⟩ := mem_getD hz
          exact top i hi
end
end L2
end
section
set_option maxHeartbeats 4000001
namespace L2
open PySem PySem.Spec PyProof.Rows Own
section
variable {X : Cx}
/-! ### t + u and t[lo:hi] of tuples that are tracked: what comes is tracked too -/
theorem op_catH : OpR X (binaryOp .Add) (fun x y H Q => ∃ a b xs ys, x = .ref a ∧ y = .ref b ∧ H a = some (.tup xs) ∧ H b = some (.tup ys) ∧ xs.length + ys.length ≤ sizeLine ∧ ∀ r H', Same H H' → H' r = some (.tup (xs ++ ys)) → Q (.ref r) H') := by
  intro pins s σ H x y v u Q I rx ry h
  obtain ⟨a, b, xs, ys, rfl, rfl, ha, hb, hz, q⟩ := h
  by_cases hx : xs = []
  · subst hx
    cases rx; cases ry
    obtain ⟨its, r1, p1, _⟩ := I.tuple (SqT.of ha)
    obtain ⟨jts, r2, p2, _⟩ := I.tuple (SqT.of hb)
    cases r1
    obtain ⟨⟨c1, d1, e1, sl1⟩, o1, c1', n1, e1'⟩ := p1
    obtain ⟨⟨c2, d2, e2, sl2⟩, o2, c2', n2, e2'⟩ := p2
    simp only at c1' e1' c2' e2'
    subst c1' e1' c2' e2'
    refine concat_meets ⟨_, o1, rfl⟩ ⟨_, o2, rfl⟩ noFill_tuple_add seq_tuple_add PySem.F.slot_tuple_add PySem.F.entry_tuple_add (PySem.F.args_tuple_add_2 _ _) (tuple_addW0 a b #[] jts.toArray n1 n2 d1 d2 sl1 sl2 rfl) ⟨o1, o2, ?_⟩
    exact ⟨.ref b, H, I, rfl, q b H (Same.refl H) (by rw [List.nil_append]; exact hb)⟩
  · exact op_catT pins s σ H _ _ v u Q I rx ry ⟨a, b, xs, ys, rfl, rfl, SqT.of ha, SqT.of hb, hx, hz, fun e => q a H (Same.refl H) (by rw [e, List.append_nil]; exact ha), fun _ p hp => q p _ (same_new hp _) upd_same⟩
theorem sl_tupH : SlR X (fun x lo hi H Q => ∃ a xs, x = .ref a ∧ H a = some (.tup xs) ∧ ∀ p H', Same H H' → H' p = some (.tup (cutV xs lo hi)) → Q (.ref p) H') := by
  intro pins s σ H x v vl vu lo hi sl Q I rx hs pl pu h
  obtain ⟨a, xs, rfl, hx, q⟩ := h
  by_cases hw : HT.sIx xs.length 0 lo = 0 ∧ HT.sIx xs.length xs.length hi = xs.length
  · cases rx
    obtain ⟨its, r, ht, hz⟩ := I.tuple (SqT.of hx)
    have hlen : its.toArray.size = xs.length := by rw [List.size_toArray]; exact r.length.symm
    refine ⟨"tuple", _, PyProof.Rows.slot_tuple_getitem.lookup, ht.typeIs, getItem_all ht hs pl pu (by rw [hlen]; exact hw.1) (by rw [hlen]; exact hw.2) ⟨.ref a, H, I, rfl, q a H (Same.refl H) ?_⟩⟩
    unfold cutV
    rw [hw.1, hw.2, List.drop_zero, Nat.sub_zero, List.take_length]
    exact hx
  · exact sl_tup pins s σ H _ v vl vu lo hi sl Q I rx hs pl pu ⟨a, xs, rfl, SqT.of hx, hw, fun p hp => q p _ (same_new hp _) upd_same⟩
end
theorem cut_upto (xs : List V) (i : Nat) (h : i ≤ xs.length) : cutV xs none (some (i : Int)) = xs.take i := by
  unfold cutV
  rw [HT.sIx_none, HT.sIx_nat, List.drop_zero, Nat.sub_zero, Nat.min_eq_left h]
theorem cut_from (xs : List V) (i : Nat) (h : i ≤ xs.length) : cutV xs (some (i : Int)) none = xs.drop i := by
  unfold cutV
  rw [HT.sIx_none, HT.sIx_nat, Nat.min_eq_left h]
  exact List.take_of_length_le (by rw [List.length_drop]; exact Nat.le_refl _)
end L2
end
section
set_option maxHeartbeats 4000001
namespace L2
open PySem PySem.Spec PyProof.Rows Own
section
variable {X : Cx}
/-! ### == and != of two lists of ints -/
theorem ints_eqAt {A : Around} {s : Shared} {ns ms : List Int} {its jts : List Value} (r1 : Vals (ns.map V.int) its) (r2 : Vals (ms.map V.int) jts) (j : Nat) (h1 : j < its.toArray.size) (h2 : j < jts.toArray.size) :
    SeqAt.EqAt A s its.toArray[j] jts.toArray[j] (eqV ((ns.map V.int).getD j .non) ((ms.map V.int).getD j .non)) := by
  have k1 : j < (ns.map V.int).length := by rw [r1.length]; simpa using h1
  have k2 : j < (ms.map V.int).length := by rw [r2.length]; simpa using h2
  obtain ⟨a, ea, qa⟩ := r1.get (List.getElem?_eq_getElem k1)
  obtain ⟨b, eb, qb⟩ := r2.get (List.getElem?_eq_getElem k2)
  have ga : its.toArray[j] = a := by simpa using (List.getElem?_eq_some_iff.mp ea).2
  have gb : jts.toArray[j] = b := by simpa using (List.getElem?_eq_some_iff.mp eb).2
  have fl := flat_ints ns
  have fm := flat_ints ms
  rw [ga, gb, List.getD_eq_getElem?_getD, List.getD_eq_getElem?_getD, List.getElem?_eq_getElem k1, List.getElem?_eq_getElem k2]
  exact eqAt_V qa qb (List.all_eq_true.mp fl _ (List.getElem_mem k1)) (List.all_eq_true.mp fm _ (List.getElem_mem k2))
theorem all_same {ns ms : List Int} (h : ns.length = ms.length) : ((List.range ns.length).all fun j => eqV ((ns.map V.int).getD j .non) ((ms.map V.int).getD j .non)) = decide (ns = ms) := by
  rw [← all_eq ns ms, List.length_map, List.length_map, h, Nat.min_self, beq_self_eq_true, Bool.and_true]
theorem op_neLi (hu : X.A.units < cLine) : OpR X (compareOp .NotEq) (fun x y H Q => ∃ a b ns ms, x = .ref a ∧ y = .ref b ∧ SqL X.K H a (List.map V.int ns) ∧ SqL X.K H b (List.map V.int ms) ∧ Q (.bl (!decide (ns = ms))) H) := by
  rintro pins s σ H x y v u Q I rx ry ⟨a, b, ns, ms, rfl, rfl, ha, hb, q⟩
  cases rx; cases ry
  obtain ⟨its, r1, p1, _⟩ := I.list ha
  obtain ⟨jts, r2, p2, _⟩ := I.list hb
  have l1 : its.length = ns.length := by rw [← r1.length, List.length_map]
  have l2 : jts.length = ms.length := by rw [← r2.length, List.length_map]
  by_cases e : ns.length = ms.length
  · refine SeqAt.RcNeAt.lists p1.isList p2.isList (by simpa [l1, l2] using e) hu (ints_eqAt r1 r2) X.prog X.w _ _ ?_
    rw [List.size_toArray, l1, all_same e]
    exact ⟨.bl _, H, I, rfl, q⟩
  · refine SeqAt.RcNeAt.lists_lengths p1.isList p2.isList (by simpa [l1, l2] using e) hu X.prog X.w _ _ ?_
    rw [decide_eq_false (fun z => e (congrArg List.length z))] at q
    exact ⟨.bl _, H, I, rfl, q⟩
theorem op_eqLi (hu : X.A.units < cLine) : OpR X (compareOp .Eq) (fun x y H Q => ∃ a b ns ms, x = .ref a ∧ y = .ref b ∧ SqL X.K H a (List.map V.int ns) ∧ SqL X.K H b (List.map V.int ms) ∧ Q (.bl (decide (ns = ms))) H) := by
  rintro pins s σ H x y v u Q I rx ry ⟨a, b, ns, ms, rfl, rfl, ha, hb, q⟩
  cases rx; cases ry
  obtain ⟨its, r1, p1, _⟩ := I.list ha
  obtain ⟨jts, r2, p2, _⟩ := I.list hb
  have l1 : its.length = ns.length := by rw [← r1.length, List.length_map]
  have l2 : jts.length = ms.length := by rw [← r2.length, List.length_map]
  by_cases e : ns.length = ms.length
  · refine SeqAt.RcAt.lists p1.isList p2.isList (by simpa [l1, l2] using e) hu (ints_eqAt r1 r2) X.prog X.w _ _ ?_
    rw [List.size_toArray, l1, all_same e]
    exact ⟨.bl _, H, I, rfl, q⟩
  · refine SeqAt.RcAt.lists_lengths p1.isList p2.isList (by simpa [l1, l2] using e) hu X.prog X.w _ _ ?_
    rw [decide_eq_false (fun z => e (congrArg List.length z))] at q
    exact ⟨.bl _, H, I, rfl, q⟩
end
end L2
end
section
set_option maxHeartbeats 4000001
namespace L2
open PySem PySem.Spec PyProof.Rows Own
/-! ### str of ints in tuples -/
/-- what a thing of ints in tuples is, at most n deep -/
def Dat (H : Hp) : Nat → V → PyData → Prop
  | 0, x, d => ∃ i : Int, x = .int i ∧ d = .int i ∧ i.natAbs.log2 < 1920
  | n + 1, x, d => (∃ i : Int, x = .int i ∧ d = .int i ∧ i.natAbs.log2 < 1920) ∨ ∃ a xs ds, x = .ref a ∧ d = .tuple ds ∧ H a = some (.tup xs) ∧ xs.length = ds.length ∧ ∀ (j : Nat) (u : V) (e : PyData), xs[j]? = some u → ds[j]? = some e → Dat H n u e
theorem Dat.same {H H' : Hp} (s : ∀ a xs, H a = some (.tup xs) → H' a = some (.tup xs)) : ∀ {n : Nat} {x : V} {d : PyData}, Dat H n x d → Dat H' n x d
  | 0, _, _, h => h
  | n + 1, _, _, h => by
    rcases h with h | ⟨a, xs, ds, e1, e2, h1, h2, h3⟩
    · exact .inl h
    · exact .inr ⟨a, xs, ds, e1, e2, s _ _ h1, h2, fun j u e p q => Dat.same s (h3 j u e p q)⟩
theorem reads_row {h : Heap} : ∀ (vs : List Value) (ds : List PyData), vs.length = ds.length → (∀ (j : Nat) (v : Value) (d : PyData), vs[j]? = some v → ds[j]? = some d → ∃ as, Reads h v d as) → ∃ as, ReadsAll h vs ds as
  | [], [], _, _ => ⟨_, .nil⟩
  | v :: vs, d :: ds, hl, q => by
    obtain ⟨as, r⟩ := q 0 v d rfl rfl
    obtain ⟨bs, r'⟩ := reads_row vs ds (by simpa using hl) fun j v' d' e1 e2 => q (j + 1) v' d' (by simpa using e1) (by simpa using e2)
    exact ⟨_, .cons r r'⟩
section
variable {X : Cx}
theorem Dat.reads {pins : List (Addr × Obj)} {σ : St} {H : Hp} {s : Shared} (I : Inv X pins σ H s) : ∀ (n : Nat) (x : V) (d : PyData) (v : Value), Dat H n x d → RelV x v → ∃ as, Reads s.heap v d as
  | 0, x, d, v, ⟨i, e1, e2, _⟩, r => by
    subst e1; subst e2
    obtain ⟨t, rfl⟩ := r
    exact ⟨_, .int i t⟩
  | n + 1, x, d, v, h, r => by
    rcases h with ⟨i, e1, e2, _⟩ | ⟨a, xs, ds, e1, e2, ha, hl, hx⟩
    · subst e1; subst e2
      obtain ⟨t, rfl⟩ := r
      exact ⟨_, .int i t⟩
    · subst e1; subst e2
      cases r
      obtain ⟨its, g, p, _⟩ := I.tuple (SqT.of ha)
      obtain ⟨o, eo, co, m, dm⟩ := p
      have gl := g.length
      obtain ⟨as, ra⟩ := reads_row (h := s.heap) its ds (by omega) fun j v' d' e1 e2 => by
        have jl : j < xs.length := by have := (List.getElem?_eq_some_iff.mp e1).1; omega
        obtain ⟨w', f1, f2⟩ := g.get (List.getElem?_eq_getElem jl)
        obtain rfl := Option.some.inj (e1.symm.trans f1)
        exact Dat.reads I n _ _ _ (hx j _ _ (List.getElem?_eq_getElem jl) e2) f2
      exact ⟨as, .tuple eo co dm (by simpa using ra)⟩
theorem dat_all {n : Nat} : ∀ {ds : List PyData}, (∀ e ∈ ds, e.showable = true ∧ e.hasDict = false ∧ e.depth ≤ n) → PyData.showableAll ds = true ∧ PyData.hasDictAll ds = false ∧ PyData.depthAll ds ≤ n
  | [], _ => ⟨rfl, rfl, Nat.zero_le _⟩
  | d :: ds, h => by
    obtain ⟨a1, a2, a3⟩ := h d List.mem_cons_self
    obtain ⟨b1, b2, b3⟩ := dat_all (ds := ds) fun e he => h e (List.mem_cons_of_mem _ he)
    refine ⟨?_, ?_, ?_⟩
    · show (d.showable && PyData.showableAll ds) = true
      rw [a1, b1]; rfl
    · show (d.hasDict || PyData.hasDictAll ds) = false
      rw [a2, b2]; rfl
    · show max d.depth (PyData.depthAll ds) ≤ n
      omega
theorem Dat.ok {H : Hp} : ∀ {n : Nat} {x : V} {d : PyData}, Dat H n x d → d.showable = true ∧ d.hasDict = false ∧ d.depth ≤ n
  | 0, _, _, ⟨i, e1, e2, z⟩ => by subst e2; exact ⟨decide_eq_true z, rfl, Nat.le_refl 0⟩
  | n + 1, _, _, h => by
    rcases h with ⟨i, e1, e2, z⟩ | ⟨a, xs, ds, e1, e2, ha, hl, hx⟩
    · subst e2; exact ⟨decide_eq_true z, rfl, Nat.zero_le _⟩
    · subst e2
      obtain ⟨p, q, r⟩ := dat_all (n := n) (ds := ds) fun e he => by
        obtain ⟨j, jl, ej⟩ := List.getElem_of_mem he
        exact (hx j _ e (List.getElem?_eq_getElem (by omega)) (by rw [List.getElem?_eq_getElem jl, ej])).ok
      exact ⟨p, q, Nat.succ_le_succ r⟩
theorem call_strD (hg : X.A.guards = some []) (hu : X.A.units + 64 < cLine) : CallR X (.type "str") (fun xs H Q => ∃ a n d, xs = [.ref a] ∧ n ≤ 20 ∧ Dat H n (.ref a) d ∧ d.shown.length ≤ sizeLine ∧ ∀ z, z = d.shown → Q (.str z) H) := by
  rintro pins s σ H xs us Q I r ⟨a, n, d, rfl, n20, dt, hz, q⟩
  obtain ⟨u, rfl, r1⟩ := vals1 r
  cases r1
  obtain ⟨as, rd⟩ := Dat.reads I n _ d _ dt rfl
  obtain ⟨o1, o2, o3⟩ := dt.ok
  exact str_of_reads rd o1 (fun z => by rw [o2] at z; cases z) hg (by omega) (fun _ _ e => e) (fun h' u tk k => ⟨.str d.shown, H, I.kept k, ⟨_, rfl⟩, q _ rfl⟩) hz
end
/-! ### how long it is -/
theorem tupText_len (ts : List Str) : (tupleText ts).length ≤ piled ts + 3 := by
  unfold tupleText; rw [strLen_append, strLen_append]
  have e1 : (("(" : String) : Str).length = 1 := rfl
  have e3 : (((if ts.length == 1 then ",)" else ")" : String) : Str)).length ≤ 2 := by split <;> decide
  rw [e1]
  by_cases h : ts = []
  · subst h
    have : (Str.join ", " ([] : List Str)).length = 0 := rfl
    omega
  · have jl := join_length_add ts h
    omega
theorem piled_most {m : Nat} : ∀ {ts : List Str}, (∀ t ∈ ts, t.length ≤ m) → piled ts ≤ ts.length * (m + 2)
  | [], _ => Nat.zero_le _
  | t :: ts, h => by
    have a := h t List.mem_cons_self
    have b := piled_most (ts := ts) fun x hx => h x (List.mem_cons_of_mem _ hx)
    rw [piled_cons, List.length_cons, Nat.add_one_mul]
    omega
theorem shownAll_map {α : Type} (g : α → PyData) : ∀ l : List α, PyData.shownAll (l.map g) = l.map fun x => (g x).shown
  | [] => rfl
  | x :: l => by
    show (g x).shown :: PyData.shownAll (l.map g) = _
    rw [shownAll_map g l]; rfl
theorem tup_len {α : Type} {g : α → PyData} {m n : Nat} {l : List α} (h : ∀ x ∈ l, (g x).shown.length ≤ m) (hn : l.length ≤ n) : (PyData.tuple (l.map g)).shown.length ≤ n * (m + 2) + 3 := by
  show (tupleText (PyData.shownAll (l.map g))).length ≤ _
  rw [shownAll_map]
  have a := tupText_len (l.map fun x => (g x).shown)
  have b := piled_most (m := m) (ts := l.map fun x => (g x).shown) (by
    intro t ht
    obtain ⟨x, hx, rfl⟩ := List.mem_map.mp ht
    exact h x hx)
  rw [List.length_map] at b
  have c := Nat.mul_le_mul_right (m + 2) hn
  omega
theorem fig2 : ∀ i, i < 16 → (PyData.int ((i : Nat) : Int)).shown.length ≤ 2 := by decide +kernel
theorem log_small {i : Nat} (h : i < 2 ^ 64) : ((i : Nat) : Int).natAbs.log2 < 1920 := by
  rw [Int.natAbs_natCast]
  by_cases z : i = 0
  · subst z; decide
  · exact (Nat.log2_lt z).mpr (Nat.lt_of_lt_of_le h (Nat.pow_le_pow_right (by decide) (by decide)))
end L2
end
section
set_option maxHeartbeats 4000001
namespace L2
open PySem PySem.Spec PyProof.Rows PySem.Calls PySem.NumText Own
section
variable {prog : Program} {w : World} {A : Around} {E : Value → Shared → Prop} {s : Shared}
/-! ### a pair as it is: t[::1] -/
theorem applied_fwd {sl : Addr} {t : Tok} {Q : Int × Int × Nat → Shared → Prop} (hs : s.heap.IsSliceOf sl .none .none (.int 1 t)) (h : Q (0, 1, 2) s) : wpAny (model prog w) A (Builtin.Slice.sliceApplied (.ref sl) (pure (2 : Int))) Q E s := by
  have hs' := hs; obtain ⟨os, hos, hcs, hds⟩ := hs'
  unfold Builtin.Slice.sliceApplied Builtin.Slice.sliceFields
  refine wpAny_bind (wpAny_bind (wpAny_field hos hds (x := .none) rfl (wpAny_bind (wpAny_field hos hds (x := .none) rfl (wpAny_bind (wpAny_field hos hds (x := .int 1 t) rfl (wpAny_pure ?_)))))))
  refine wpAny_bind (slicePart_int ?_); show wpAny _ _ (if ((1 : Int) == 0) = true then _ else _) _ _ s
  rw [if_neg (by decide)]
  refine wpAny_bind (slicePart_none (wpAny_bind (slicePart_none (wpAny_bind (wpAny_pure ?_)))))
  show wpAny _ _ (match Builtin.Slice.sliceAdjust none none 1 (2 : Int) with | (lo, hi) => pure (lo, (1 : Int), Builtin.Slice.slicePlaces lo hi 1)) _ _ s
  have e : Builtin.Slice.sliceAdjust none none 1 (2 : Int) = (0, 2) := by decide
  have e2 : Builtin.Slice.slicePlaces (0 : Int) 2 1 = 2 := by decide
  rw [e]; show wpAny _ _ (pure ((0 : Int), (1 : Int), Builtin.Slice.slicePlaces (0 : Int) 2 1)) _ _ s
  rw [e2]; exact wpAny_pure h
theorem getItem_fwd {t sl : Addr} {x y : Value} {tk : Tok} {Q : Value → Shared → Prop} (ht : IsTup s.heap t #[x, y]) (hs : s.heap.IsSliceOf sl .none .none (.int 1 tk)) (h : Q (.ref t) s) :
    wpAny (model prog w) A (getItem (.ref t) (.ref sl)) Q E s := by
  have hs' := hs; obtain ⟨os, hos, hcs, hds⟩ := hs'
  have hTs : s.TypeIs (.ref sl) "slice" := ⟨os, hos, hcs⟩
  unfold getItem; try with_reducible refine wpAny_holding ?_
  first | refine wpAny_bind (wpAny_pure ?_) | skip
  refine wpAny_bind (wpAny_sequenceKey ht.typeIs (by decide) (wpAny_bind (wpAny_callSpecial?_slot (name := Str.ofString "__getitem__") ht.typeIs PyProof.Rows.slot_tuple_getitem (wpAny_call_entry PyProof.Rows.slot_tuple_getitem ht.typeIs PyProof.Rows.entry_tuple_getitem ?_ (PyProof.Rows.args_tuple_getitem _ _)))))
  show wpAny _ _ (Builtin.Tuple.tupleItemsOf (.ref t) >>= _) _ _ s
  refine wpAny_bind (tupleItemsOf_ ht (wpAny_bind (wpAny_typeOf hTs ?_))); rw [if_pos (by decide)]
  refine wpAny_bind (applied_fwd hs ?_); show wpAny _ _ (if ((0 : Int) == 0 && (1 : Int) == 1 && (2 : Nat) == 2) = true then _ else _) _ _ s
  rw [if_pos (by decide)]
  refine wpAny_bind (?_ : wpAny _ _ (Builtin.Tuple.tupleIsExact (.ref t)) _ _ s)
  unfold Builtin.Tuple.tupleIsExact; refine wpAny_bind (wpAny_typeOf ht.typeIs (wpAny_pure ?_))
  rw [if_pos (by decide)]; exact wpAny_bind (wpAny_rule (wpAny_pure ⟨_, rfl, wpAny_pure h⟩))
end
section
variable {X : Cx}
/-- t[::k] of a pair, k 1 or -1 -/
def tTurn (K : PySem.W.Frag) (te : TE) (ts : TO) : TE := fun σ H Q => te σ H fun x H1 => ts σ H1 fun o H2 => ∃ a u v, x = .ref a ∧ SqT K H2 a [u, v] ∧ ((o = some 1 ∧ Q (.ref a) H2) ∨ (o = some (-1) ∧ ∀ p, H2 p = none → Q (.ref p) (upd H2 p (.tup [v, u]))))
theorem pe_turn {e st : Expr} {te : TE} {ts : TO} {p2 pos : Pos} (he : PE X e te) (hs : PO X (some st) ts) : PE X (.Subscript e (.Slice none none (some st) p2) pos) (tTurn X.K te ts) := by
  intro pins s σ H Q I h
  refine Subscript_ (thn (he pins s σ H _ I h) fun v s1 ⟨x, H1, I1, r1, q1⟩ => wpAny_Slice ?_)
  rw [evalPart_none]; refine wpAny_pure (wpAny_pure (thn (hs pins s1 σ H1 _ I1 q1) fun vst s2 ⟨o, H2, I2, po, q2⟩ => ?_))
  obtain ⟨a, u1, u2, rfl, hq, k⟩ := q2
  cases r1
  rcases k with ⟨rfl, k⟩ | ⟨rfl, k⟩
  · obtain ⟨t, rfl⟩ : ∃ t, vst = .int 1 t := by cases po; exact ⟨_, rfl⟩
    have I3 : Inv X pins σ H2 { s2 with heap := s2.heap.push { cls := .type "slice", data := .fields #[.none, .none, .int 1 t] } } := I2.kept (t' := s2.toks) fun b ob q => Heap.get?_push_of_some _ q
    obtain ⟨its, r, ht, hz⟩ := I3.tuple hq
    obtain ⟨w1, w2, rfl, g1, g2⟩ := r.two
    show wpAny (model X.prog X.w) X.A (subscriptTail e (.Slice none none (some st) p2) (.ref a) (.ref s2.heap.objs.size)) (EP X pins σ Q) X.xe { s2 with heap := s2.heap.push { cls := .type "slice", data := .fields #[.none, .none, .int 1 t] } }
    refine tail_any (ops := [.ref a, .ref s2.heap.objs.size]) ht.typeIs PyProof.Rows.slot_tuple_getitem.lookup (getItem_fwd ht (Heap.IsSliceOf.new ..) ?_) (by with_unfolding_all rfl)
    exact ⟨.ref _, _, I3, rfl, k⟩
  · obtain ⟨t, rfl⟩ : ∃ t, vst = .int (-1) t := by cases po; exact ⟨_, rfl⟩
    have I3 : Inv X pins σ H2 { s2 with heap := s2.heap.push { cls := .type "slice", data := .fields #[.none, .none, .int (-1) t] } } := I2.kept (t' := s2.toks) fun b ob q => Heap.get?_push_of_some _ q
    obtain ⟨its, r, ht, hz⟩ := I3.tuple hq
    obtain ⟨w1, w2, rfl, g1, g2⟩ := r.two
    show wpAny (model X.prog X.w) X.A (subscriptTail e (.Slice none none (some st) p2) (.ref a) (.ref s2.heap.objs.size)) (EP X pins σ Q) X.xe { s2 with heap := s2.heap.push { cls := .type "slice", data := .fields #[.none, .none, .int (-1) t] } }
    refine tail_any (ops := [.ref a, .ref s2.heap.objs.size]) ht.typeIs PyProof.Rows.slot_tuple_getitem.lookup (getItem_back ht (Heap.IsSliceOf.new ..) ?_) (by with_unfolding_all rfl)
    exact ⟨.ref _, _, I3.laid (t' := s2.toks) (o := .tup [u2, u1]) (fun b ob q => Heap.get?_push_of_some _ q) (Nat.le_refl _) ⟨by show 2 ≤ sizeLine; decide, [w2, w1], .cons g2 (.cons g1 .nil), TupX.new _ _⟩, rfl, k _ (I3.hok.fresh (Nat.le_refl _))⟩
/-! ### int of a short text of figures -/
theorem call_intShort : CallR X (.type "int") (fun vs H Q => ∃ x : Str, vs = [.str x] ∧ AllDigits x.cps.toList ∧ 0 < x.length ∧ x.length ≤ 640 ∧ Q (.int (digitsVal x.cps.toList : Nat)) H) := by
  rintro pins s σ H vs us Q I rv ⟨x, rfl, hd, h0, h6, q⟩
  obtain ⟨u, rfl, t, rfl⟩ := rv.one
  have xl : x.cps.toList.length = x.length := by simp [Str.length]
  have ne : x.cps.toList ≠ [] := fun z => by rw [z] at xl; simp at xl; omega
  exact PySem.W.KIN.call_text (intText_digits hd ne (by omega)) h6 ⟨.int _, H, I.tok _, ⟨_, rfl⟩, q⟩
end
end L2
end
section
set_option maxHeartbeats 4000001
namespace L2
open PySem PySem.Spec PyProof.Rows Own
section
variable {X : Cx}
/-! ### what is never come to -/
theorem ps_dead {st : Stmt} : PS X st (fun _ _ _ => False) := fun _ _ _ _ _ _ h => h.elim
theorem pss_dead {b : List Stmt} : PSs X b (fun _ _ _ => False) := fun _ _ _ _ _ _ h => h.elim
theorem pe_dead {e : Expr} : PE X e (fun _ _ _ => False) := fun _ _ _ _ _ _ h => h.elim
end
/-! ### things of any kind -/
def AnyT (K : PySem.W.Frag) (H : Hp) (x : V) : Prop := ∃ T, TyOf K H x T ∧ ∃ t : String, T = .type t
def wholeV : V → Bool
  | .int _ => true
  | _ => false
def belowV (b : Int) : V → Bool
  | .int i => decide (0 ≤ i) && decide (i < b)
  | _ => false
def fromV (b : Int) : V → Bool
  | .int i => decide (b ≤ i)
  | _ => false
def fewV : V → Bool
  | .int i => decide ((if i < 0 then -i else i) < 10 ^ 30)
  | _ => false
def wordV (w : Str) : V → Bool
  | .str x => decide (x = w)
  | _ => false
def rowOf (H : Hp) : V → Option (List V)
  | .ref a => match H a with
    | some (.tup xs) => some xs
    | _ => none
  | _ => none
def rowV (H : Hp) (m : Int) (x : V) : Bool := match rowOf H x with
  | some xs => decide ((xs.length : Int) = m)
  | none => false
theorem rowOf_tup {H : Hp} {a : Addr} {xs : List V} (h : H a = some (.tup xs)) : rowOf H (.ref a) = some xs := by
  show (match H a with
    | some (.tup xs) => some xs
    | _ => none) = _
  rw [h]
theorem rowOf_some {H : Hp} {x : V} {xs : List V} (h : rowOf H x = some xs) : ∃ a, x = .ref a ∧ H a = some (.tup xs) := by
  cases x with
  | ref a =>
    refine ⟨a, rfl, ?_⟩
    cases z : H a with
    | none => simp [rowOf, z] at h
    | some o => cases o <;> simp [rowOf, z] at h; rw [h]
  | _ => cases h
theorem int_dec (i j : Int) : decide (V.int i = V.int j) = decide (i = j) := by
  by_cases e : i = j
  · rw [decide_eq_true e, decide_eq_true (congrArg V.int e)]
  · rw [decide_eq_false e, decide_eq_false (fun z => e (V.int.inj z))]
theorem str_dec (i j : Str) : decide (V.str i = V.str j) = decide (i = j) := by
  by_cases e : i = j
  · rw [decide_eq_true e, decide_eq_true (congrArg V.str e)]
  · rw [decide_eq_false e, decide_eq_false (fun z => e (V.str.inj z))]
theorem AnyT.same {K : PySem.W.Frag} {H H' : Hp} {x : V} (s : ∀ b o, H b = some o → H' b = some o) (h : AnyT K H x) : AnyT K H' x := by
  obtain ⟨T, h, t, et⟩ := h
  cases h with
  | non => exact ⟨_, .non, _, rfl⟩
  | bl b => exact ⟨_, .bl b, _, rfl⟩
  | int i => exact ⟨_, .int i, _, rfl⟩
  | str x => exact ⟨_, .str x, _, rfl⟩
  | flt x => exact ⟨_, .flt x, _, rfl⟩
  | lst e => exact ⟨_, .lst (s _ _ e), _, rfl⟩
  | frz e => exact ⟨_, .frz (s _ _ e), _, rfl⟩
  | tup e => exact ⟨_, .tup (s _ _ e), _, rfl⟩
  | dK e => exact ⟨_, .dK (s _ _ e), _, rfl⟩
  | dT e => exact ⟨_, .dT (s _ _ e), _, rfl⟩
  | ins e _ _ _ _ _ => cases et
/-- what isinstance tells of it -/
structure Isi (K : PySem.W.Frag) (H : Hp) (x : V) (t : Value) : Prop where
  ty : TyOf K H x t
  int : PySem.W.kitOne K t (.type "int") = some (match x with | .int _ => true | .bl _ => true | _ => false)
  bool : PySem.W.kitOne K t (.type "bool") = some (match x with | .bl _ => true | _ => false)
  str : PySem.W.kitOne K t (.type "str") = some (match x with | .str _ => true | _ => false)
  tup : PySem.W.kitOne K t (.type "tuple") = some (rowOf H x).isSome
theorem AnyT.isi {K : PySem.W.Frag} {H : Hp} {x : V} (h : AnyT K H x) : ∃ t, Isi K H x t := by
  obtain ⟨T, h, t, et⟩ := h
  refine ⟨_, h, ?_, ?_, ?_, ?_⟩
  all_goals cases h with
  | non => rfl
  | bl b => rfl
  | int i => rfl
  | str x => rfl
  | flt x => rfl
  | lst e => first | rfl | (simp only [rowOf, e]; rfl)
  | frz e => first | rfl | (simp only [rowOf, e]; rfl)
  | tup e => first | rfl | (simp only [rowOf, e]; rfl)
  | dK e => first | rfl | (simp only [rowOf, e]; rfl)
  | dT e => first | rfl | (simp only [rowOf, e]; rfl)
  | ins e _ _ _ _ _ => cases et
end L2
end
section
set_option maxHeartbeats 4000001
/-! nets in the heap, what comes of counts, and the draws -/
namespace Bn
open PySem L2 Own
/-- tuples stay -/
def Tups (H H' : Hp) : Prop := ∀ a xs, H a = some (.tup xs) → H' a = some (.tup xs)
theorem Tups.refl (H : Hp) : Tups H H := fun _ _ e => e
theorem Tups.trans {H H1 H2 : Hp} (x : Tups H H1) (y : Tups H1 H2) : Tups H H2 := fun a xs e => y a xs (x a xs e)
theorem Tups.of {H H' : Hp} (s : Same H H') : Tups H H' := fun a _ e => s a _ e
theorem Tups.lst {H : Hp} {l : Addr} {xs ys : List V} (h : H l = some (.lst xs)) : Tups H (upd H l (.lst ys)) := fun a zs e => by
  rw [upd_ne (by rintro rfl; rw [h] at e; cases e)]; exact e
/-- all but l is as it was -/
def But (l : Addr) (H H' : Hp) : Prop := ∀ b o, H b = some o → b ≠ l → H' b = some o
theorem But.trans {l : Addr} {H H1 H2 : Hp} (x : But l H H1) (y : But l H1 H2) : But l H H2 := fun b o e n => y b o (x b o e n) n
theorem But.of {l : Addr} {H H1 : Hp} (x : Same H H1) : But l H H1 := fun b o e _ => x b o e
/-- the state that the draws turn -/
structure PkAt (H : Hp) (l : Addr) : Prop where
  ex : ∃ a b : Int, H l = some (.lst [.int a, .int b]) ∧ 0 ≤ a ∧ 0 ≤ b ∧ b < 2 ^ 31
theorem PkAt.keep {H H' : Hp} {l : Addr} (S : PkAt H l) (s : Same H H') : PkAt H' l := by
  obtain ⟨a, b, h, r⟩ := S.ex
  exact ⟨a, b, s _ _ h, r⟩
theorem PkAt.ne {H : Hp} {l p : Addr} (S : PkAt H l) (h : H p = none) : l ≠ p := by
  obtain ⟨a, b, e, _⟩ := S.ex
  exact ne_of_none e h
theorem PkAt.upd {H : Hp} {l p : Addr} {o : HO} (S : PkAt H l) (h : l ≠ p) : PkAt (upd H p o) l := by
  obtain ⟨a, b, e, r⟩ := S.ex
  exact ⟨a, b, by rw [upd_ne h]; exact e, r⟩
theorem But.tups {H H' : Hp} {l : Addr} (x : But l H H') (S : PkAt H l) : Tups H H' := fun a xs e => x a _ e (by
  rintro rfl
  obtain ⟨_, _, z, _⟩ := S.ex
  rw [z] at e; cases e)
/-- pairs of places in the heap -/
def Prs (H : Hp) : List V → List (Nat × Nat) → Prop
  | [], [] => True
  | p :: ps, f :: fs => (∃ a, p = .ref a ∧ H a = some (.tup [.int f.1, .int f.2])) ∧ Prs H ps fs
  | _, _ => False
theorem Prs.tups {H H' : Hp} (t : Tups H H') : ∀ {ps : List V} {fs : List (Nat × Nat)}, Prs H ps fs → Prs H' ps fs
  | [], [], _ => trivial
  | _ :: _, _ :: _, ⟨⟨a, e, h⟩, r⟩ => ⟨⟨a, e, t _ _ h⟩, r.tups t⟩
theorem Prs.len {H : Hp} : ∀ {ps : List V} {fs : List (Nat × Nat)}, Prs H ps fs → ps.length = fs.length
  | [], [], _ => rfl
  | _ :: _, _ :: _, ⟨_, r⟩ => congrArg (· + 1) r.len
theorem Prs.add {H : Hp} {a : Addr} {f : Nat × Nat} (h : H a = some (.tup [.int f.1, .int f.2])) : ∀ {ps : List V} {fs : List (Nat × Nat)}, Prs H ps fs → Prs H (ps ++ [.ref a]) (fs ++ [f])
  | [], [], _ => ⟨⟨a, rfl, h⟩, trivial⟩
  | _ :: _, _ :: _, ⟨x, r⟩ => ⟨x, r.add h⟩
theorem Prs.get {H : Hp} : ∀ {ps : List V} {fs : List (Nat × Nat)} {i : Nat} {p : V}, Prs H ps fs → ps[i]? = some p → ∃ a f, p = .ref a ∧ fs[i]? = some f ∧ H a = some (.tup [.int f.1, .int f.2])
  | [], [], _, _, _, e => by simp at e
  | _ :: _, f :: _, 0, p, ⟨⟨a, e1, h⟩, _⟩, e => by
    have : _ = p := Option.some.inj e
    subst this
    exact ⟨a, f, e1, rfl, h⟩
  | _ :: _, _ :: _, i + 1, p, ⟨_, r⟩, e => r.get (i := i) (by simpa using e)
structure Nt where
  lanes : Nat
  forks : List (Nat × Nat)
  ends : List Nat
structure Nt.Ok (N : Nt) : Prop where
  l1 : 1 ≤ N.lanes
  l16 : N.lanes ≤ 16
  fm : N.forks.length ≤ 128
  fk : ∀ f ∈ N.forks, f.1 < N.lanes ∧ f.2 < N.lanes ∧ f.1 ≠ f.2
  en : N.ends.Perm (List.range N.lanes)
def nums (es : List Nat) : List V := es.map fun (e : Nat) => V.int e
/-- a net in the heap -/
structure NetAt (H : Hp) (r fr er : Addr) (ps : List V) (N : Nt) : Prop where
  net : H r = some (.tup [.int N.lanes, .ref fr, .ref er])
  forks : H fr = some (.tup ps)
  prs : Prs H ps N.forks
  ends : H er = some (.tup (nums N.ends))
theorem NetAt.tups {H H' : Hp} {r fr er : Addr} {ps : List V} {N : Nt} (t : Tups H H') (h : NetAt H r fr er ps N) : NetAt H' r fr er ps N := ⟨t _ _ h.net, t _ _ h.forks, h.prs.tups t, t _ _ h.ends⟩
/-- what one fork makes of the counts on the lanes, and of the turns so far -/
def stepF (st : List Int × List Int) (f : Nat × Nat) : List Int × List Int :=
  ((st.1.set f.1 ((st.1.getD f.1 0 + st.1.getD f.2 0 + 1) / 2)).set f.2 ((st.1.getD f.1 0 + st.1.getD f.2 0) / 2), st.2 ++ [(st.1.getD f.1 0 + st.1.getD f.2 0) % 2])
def flowFrom (st : List Int × List Int) (fs : List (Nat × Nat)) : List Int × List Int := fs.foldl stepF st
def flow (fs : List (Nat × Nat)) (cs : List Int) : List Int × List Int := flowFrom (cs, []) fs
def endsM (N : Nt) (cs : List Int) : List Int := N.ends.map fun e => (flow N.forks cs).1.getD e 0
def turnsM (N : Nt) (cs : List Int) : List Int := (flow N.forks cs).2
theorem flow_snoc (fs : List (Nat × Nat)) (f : Nat × Nat) (cs : List Int) : flow (fs ++ [f]) cs = stepF (flow fs cs) f := by
  unfold flow flowFrom; rw [List.foldl_append]; rfl
theorem stepF_len (st : List Int × List Int) (f : Nat × Nat) : (stepF st f).1.length = st.1.length := by simp [stepF]
theorem flowFrom_len : ∀ (fs : List (Nat × Nat)) (st : List Int × List Int), (flowFrom st fs).1.length = st.1.length ∧ (flowFrom st fs).2.length = st.2.length + fs.length
  | [], st => ⟨rfl, rfl⟩
  | f :: fs, st => by
    have h := flowFrom_len fs (stepF st f)
    refine ⟨h.1.trans (stepF_len st f), h.2.trans ?_⟩
    simp [stepF]; omega
theorem flow_len (fs : List (Nat × Nat)) (cs : List Int) : (flow fs cs).1.length = cs.length := (flowFrom_len fs (cs, [])).1
theorem flow_turns (fs : List (Nat × Nat)) (cs : List Int) : (flow fs cs).2.length = fs.length := by
  have := (flowFrom_len fs (cs, [])).2
  simpa [flow] using this
theorem flow_take {fs : List (Nat × Nat)} {i : Nat} {f : Nat × Nat} (h : fs[i]? = some f) (cs : List Int) : flow (fs.take (i + 1)) cs = stepF (flow (fs.take i) cs) f := by
  have w := List.getElem?_eq_some_iff.mp h; obtain ⟨hi, e⟩ := w
  rw [List.take_succ_eq_append_getElem hi, flow_snoc, e]
/-! ### sums -/
theorem sum_set : ∀ (xs : List Int) (i : Nat) (a : Int), i < xs.length → (xs.set i a).sum = xs.sum - xs.getD i 0 + a
  | [], i, a, h => by simp at h
  | x :: xs, 0, a, _ => by simp; omega
  | x :: xs, i + 1, a, h => by
    have := sum_set xs i a (by simpa using h)
    simp only [List.set_cons_succ, List.sum_cons, this, List.getD_cons_succ]
    omega
theorem set_getD {xs : List Int} {i p : Nat} {a : Int} (h : p < xs.length) : (xs.set i a).getD p 0 = if i = p then a else xs.getD p 0 := by
  rw [List.getD_eq_getElem?_getD, List.getElem?_set]
  by_cases e : i = p
  · subst e; simp [h]
  · simp [e]
theorem halves (c : Int) : (c + 1) / 2 + c / 2 = c := by omega
theorem stepF_sum {st : List Int × List Int} {f : Nat × Nat} (h1 : f.1 < st.1.length) (h2 : f.2 < st.1.length) (ne : f.1 ≠ f.2) : (stepF st f).1.sum = st.1.sum := by
  unfold stepF
  simp only
  rw [sum_set _ _ _ (by rw [List.length_set]; exact h2), sum_set _ _ _ h1, set_getD h2, if_neg ne]
  have := halves (st.1.getD f.1 0 + st.1.getD f.2 0)
  omega
theorem flowFrom_sum : ∀ (fs : List (Nat × Nat)) (st : List Int × List Int), (∀ f ∈ fs, f.1 < st.1.length ∧ f.2 < st.1.length ∧ f.1 ≠ f.2) → (flowFrom st fs).1.sum = st.1.sum
  | [], st, _ => rfl
  | f :: fs, st, h => by
    have hf := h f List.mem_cons_self
    have := flowFrom_sum fs (stepF st f) fun g hg => by
      rw [stepF_len]; exact h g (List.mem_cons_of_mem _ hg)
    exact this.trans (stepF_sum hf.1 hf.2.1 hf.2.2)
theorem sum_perm {xs ys : List Int} (h : xs.Perm ys) : xs.sum = ys.sum := by
  induction h with
  | nil => rfl
  | cons x _ ih => simp [ih]
  | swap x y l => simp; omega
  | trans _ _ a b => exact a.trans b
theorem map_range_getD (xs : List Int) : (List.range xs.length).map (fun e => xs.getD e 0) = xs := by
  refine List.ext_getElem (by simp) fun i h1 h2 => ?_
  rw [List.getElem_map, List.getElem_range, List.getD_eq_getElem?_getD, List.getElem?_eq_getElem h2]; rfl
theorem ends_sum {N : Nt} (ok : N.Ok) {cs : List Int} (h : cs.length = N.lanes) : (endsM N cs).sum = cs.sum := by
  unfold endsM
  rw [sum_perm (ok.en.map _)]
  have e : N.lanes = (flow N.forks cs).1.length := by rw [flow_len, h]
  rw [e, map_range_getD]
  exact flowFrom_sum N.forks (cs, []) fun f hf => by
    have := ok.fk f hf
    simp only [h]; exact this
theorem ends_lt {N : Nt} (ok : N.Ok) {e : Nat} (h : e ∈ N.ends) : e < N.lanes := List.mem_range.mp (ok.en.mem_iff.mp h)
theorem ends_len {N : Nt} (ok : N.Ok) : N.ends.length = N.lanes := by rw [ok.en.length_eq, List.length_range]
/-! ### places -/
theorem at_int {cs : List Int} {i : Nat} (h : i < cs.length) : atI (cs.map V.int) ((i : Nat) : Int) = some (.int (cs.getD i 0)) := by
  refine atI_nat ?_
  rw [List.getElem?_map, List.getD_eq_getElem?_getD, List.getElem?_eq_getElem h]; rfl
theorem ix_at {α : Type} {xs : List α} {i : Nat} (h : i < xs.length) : ixN xs.length ((i : Nat) : Int) = some i := by
  unfold ixN
  rw [if_pos (by omega), if_pos (by omega)]; simp
theorem set_ints (cs : List Int) (i : Nat) (a : Int) : (cs.map V.int).set i (.int a) = (cs.set i a).map V.int := by rw [List.map_set]
structure Mgs (mg : Str → Option Value) : Prop where
  len : mg "len" = none
  range : mg "range" = none
  tuple : mg "tuple" = none
  enum : mg "enumerate" = none
  abs : mg "abs" = none
  zip : mg "zip" = none
  isi : mg "isinstance" = none
  all : mg "all" = none
  sum : mg "sum" = none
  bool : mg "bool" = none
  int : mg "int" = none
  str : mg "str" = none
  max : mg "max" = none
  min : mg "min" = none
  sorted : mg "sorted" = none
  list : mg "list" = none
/-- a def of the text that may be called -/
structure Use (P : Program) (w : World) (K : PySem.W.Frag) (mg : Str → Option Value) (base : Heap) (x : Str) (ps : List Str) (k : Nat) (sp : Sp) (f : Addr) (fd : FuncData) : Prop where
  ok : FnOk P w K mg base CX0 k f fd ps sp
  b : Binds K fd ps []
  kp : PySem.W.keepIn K (.ref f) = true
  m : mg x = some (.ref f)
/-! ### what the defs promise -/
def spCell (K : PySem.W.Frag) : Sp := fun vs H Q _ => ∃ (a : Addr) (ns : List Int) (k : Int), vs = [.ref a, .int k] ∧ SqL K H a (ns.map V.int) ∧ 0 ≤ k ∧ ∀ x : Int, Q (.int x) H
def spLeft (K : PySem.W.Frag) : Sp := fun vs H Q _ => ∃ (a : Addr) (ns : List Int) (k : Int), vs = [.ref a, .int k] ∧ SqL K H a (ns.map V.int) ∧ ns.length ≤ 63 ∧ 0 ≤ k ∧ k ≤ 1000 ∧ ∀ l H', H l = none → Same H H' → PkAt H' l → Q (.ref l) H'
def spPick : Sp := fun vs H Q _ => ∃ (l : Addr) (m : Int), vs = [.ref l, .int m] ∧ 0 < m ∧ m < 1073741824 ∧ PkAt H l ∧ ∀ (v : Nat) H', (v : Int) < m → PkAt H' l → But l H H' → Q (.int v) H'
def spNet (most : Nat) : Sp := fun vs H Q _ => ∃ l : Addr, vs = [.ref l, .int most] ∧ PkAt H l ∧ ∀ r fr er ps N H', Nt.Ok N → NetAt H' r fr er ps N → PkAt H' l → But l H H' → Q (.ref r) H'
def spCounts : Sp := fun vs H Q _ => ∃ (l : Addr) (lanes : Nat) (signs : Nat), vs = [.ref l, .int lanes, .int signs] ∧ PkAt H l ∧ lanes ≤ 16 ∧ signs ≤ 1 ∧ ∀ r (cs : List Int) H', cs.length = lanes → H' r = some (.tup (cs.map V.int)) → PkAt H' l → But l H H' → Q (.ref r) H'
def spFlowed : Sp := fun vs H Q _ => ∃ r fr er ps N c cs, vs = [.ref r, .ref c] ∧ Nt.Ok N ∧ NetAt H r fr er ps N ∧ H c = some (.tup (List.map V.int cs)) ∧ cs.length = N.lanes ∧
  ∀ p lo lt H', Same H H' → H' p = some (.tup [.ref lo, .ref lt]) → H' lo = some (.lst ((flow N.forks cs).1.map V.int)) → H' lt = some (.lst ((flow N.forks cs).2.map V.int)) → Q (.ref p) H'
def spEnds : Sp := fun vs H Q _ => ∃ r fr er ps N c cs, vs = [.ref r, .ref c] ∧ Nt.Ok N ∧ NetAt H r fr er ps N ∧ H c = some (.tup (List.map V.int cs)) ∧ cs.length = N.lanes ∧
  ∀ p H', Same H H' → H' p = some (.tup ((endsM N cs).map V.int)) → Q (.ref p) H'
def spTurns : Sp := fun vs H Q _ => ∃ r fr er ps N c cs, vs = [.ref r, .ref c] ∧ Nt.Ok N ∧ NetAt H r fr er ps N ∧ H c = some (.tup (List.map V.int cs)) ∧ cs.length = N.lanes ∧
  ∀ p H', Same H H' → H' p = some (.tup ((turnsM N cs).map V.int)) → Q (.ref p) H'
/-- an object made later -/
def Frs (l : Addr) (H : Hp) (x : Addr) : Prop := ∀ b o, H b = some o → b ≠ l → b ≠ x
theorem But.frs {l x : Addr} {H H1 : Hp} (B : But l H H1) (h : H1 x = none) : Frs l H x := fun b o e n => ne_of_none (B b o e n) h
theorem But.upd {l x : Addr} {H H1 : Hp} {o : HO} (B : But l H H1) (f : Frs l H x) : But l H (upd H1 x o) := fun b u e n => by rw [upd_ne (f b u e n)]; exact B b u e n
theorem But.new {l x : Addr} {H H1 : Hp} {o : HO} (B : But l H H1) (h : H1 x = none) : But l H (L2.upd H1 x o) := B.upd (B.frs h)
theorem pick_at {xs : List Nat} {v : Nat} (h : v < xs.length) : ∃ n, n ∈ xs ∧ atI (nums xs) ((v : Nat) : Int) = some (.int n) := by
  refine ⟨xs[v], List.getElem_mem h, atI_nat ?_⟩
  unfold nums
  rw [List.getElem?_map, List.getElem?_eq_getElem h]; rfl
theorem at_nums {es : List Nat} {i : Nat} (h : i < es.length) : atI (nums es) ((i : Nat) : Int) = some (.int es[i]) := by
  refine atI_nat ?_
  unfold nums
  rw [List.getElem?_map, List.getElem?_eq_getElem h]; rfl
theorem nums_len (es : List Nat) : (nums es).length = es.length := by simp [nums]
theorem other_ok {one d lanes : Nat} (h1 : one < lanes) (h2 : d + 1 < lanes) : (one + 1 + d) % lanes < lanes ∧ one ≠ (one + 1 + d) % lanes := by
  refine ⟨Nat.mod_lt _ (by omega), fun e => ?_⟩
  by_cases z : one + 1 + d < lanes
  · rw [Nat.mod_eq_of_lt z] at e; omega
  · rw [Nat.mod_eq_sub_mod (by omega), Nat.mod_eq_of_lt (by omega)] at e; omega
theorem ins_perm {es : List Nat} {i v : Nat} (h : es.Perm (List.range i)) : (es.take v ++ i :: es.drop v).Perm (List.range (i + 1)) := by
  rw [List.range_succ]
  refine List.perm_middle.trans ?_
  rw [List.take_append_drop]
  exact (h.cons i).trans (List.perm_append_comm (l₁ := [i]) (l₂ := List.range i))
theorem nums_ins (es : List Nat) (v i : Nat) : (nums es).take v ++ V.int (i : Int) :: (nums es).drop v = nums (es.take v ++ i :: es.drop v) := by
  unfold nums
  rw [List.map_append, List.map_cons, List.map_take, List.map_drop]
/-- 1 and so many noughts -/
theorem ones_pos (k : Nat) : 0 < PySem.NumText.digitsVal (49 :: List.replicate k 48) := by
  unfold PySem.NumText.digitsVal
  have go : ∀ (k acc : Nat), 0 < acc → 0 < (List.replicate k 48).foldl (fun acc c => acc * 10 + (c - 48)) acc := fun k => by
    induction k with
    | zero => intro acc h; exact h
    | succ k ih => intro acc h; rw [List.replicate_succ, List.foldl_cons]; exact ih _ (by omega)
  rw [List.foldl_cons]
  exact go k _ (by decide)
theorem long_ok {z : Str} {k : Nat} (hz : z.cps.toList = List.replicate k 48) : PySem.NumText.AllDigits ((("1" : Str) ++ z).cps.toList) ∧ (("1" : Str) ++ z).length = k + 1 ∧ 0 < PySem.NumText.digitsVal ((("1" : Str) ++ z).cps.toList) := by
  have e : (("1" : Str) ++ z).cps.toList = 49 :: List.replicate k 48 := by
    show ((("1" : Str).cps ++ z.cps).toList) = _
    rw [Array.toList_append, hz]; rfl
  refine ⟨?_, ?_, ?_⟩
  · rw [e]
    intro c hc
    rcases List.mem_cons.mp hc with q | q
    · omega
    · have := List.eq_of_mem_replicate q; omega
  · have := congrArg List.length e
    rw [Array.length_toList] at this
    show (("1" : Str) ++ z).cps.size = k + 1
    rw [this, List.length_cons, List.length_replicate]
  · rw [e]; exact ones_pos k
end Bn
end
section
set_option maxHeartbeats 4000001
namespace L2
open PySem PySem.Spec PyProof.Rows Own
/-! ### the empty dict, as the guide's other layer has it -/
theorem dk_empty {P : Program} {w : World} {H : Hp} (h : Heap) (hb : sysModules < h.objs.size) : ObjOk P w H (h.push { cls := .type "dict", data := .dict #[] }) h.objs.size (.dK []) :=
  ⟨Nat.zero_le _, beq_eq_false_iff_ne.mpr (Ne.symm (Nat.ne_of_lt hb)), [], .nil, Heap.DictOf.new h⟩
def tDNewK : TE := fun _ H Q => ∀ p, H p = none → Q (.ref p) (upd H p (.dK []))
section
variable {X : Cx} {pos : Pos}
theorem Inv.big {pins : List (Addr × Obj)} {σ : St} {H : Hp} {s : Shared} (I : Inv X pins σ H s) : sysModules < s.heap.objs.size := by
  have h : mainGlobals < s.heap.objs.size := (I.mod.glob.keeps I.bk).lt
  exact Nat.lt_trans (by decide) h
theorem pe_dnewK : PE X (.Dict [] [] pos) tDNewK := fun pins s σ H Q I h =>
  wpAny_Dict_empty ⟨.ref s.heap.objs.size, _, I.laid (a := s.heap.objs.size) (o := .dK []) (t' := s.toks) (fun _ _ q => Heap.get?_push_of_some _ q) (Nat.le_refl _) (dk_empty s.heap I.big), rfl, h _ (I.hok.fresh (Nat.le_refl _))⟩
end
end L2
namespace Bn
open PySem L2 Own
/-- what stands at such addresses is kept -/
def Keeps (D : Addr → Prop) (H H' : Hp) : Prop := ∀ b o, H b = some o → D b → H' b = some o
theorem Keeps.of {D : Addr → Prop} {H H' : Hp} (s : Same H H') : Keeps D H H' := fun b o e _ => s b o e
theorem Keeps.but {D : Addr → Prop} {l : Addr} {H H' : Hp} (B : But l H H') (n : ¬ D l) : Keeps D H H' := fun b o e d => B b o e fun z => n (z ▸ d)
theorem Keeps.trans {D : Addr → Prop} {H H1 H2 : Hp} (x : Keeps D H H1) (y : Keeps D H1 H2) : Keeps D H H2 := fun b o e d => y b o (x b o e d) d
theorem Keeps.upd {D : Addr → Prop} {H : Hp} {a : Addr} {o : HO} (n : ¬ D a) : Keeps D H (L2.upd H a o) := fun b u e d => by
  have ne : b ≠ a := fun z => n (by rw [← z]; exact d)
  rw [upd_ne ne]; exact e
/-- a thing of any kind, its address among D -/
structure Good (K : PySem.W.Frag) (D : Addr → Prop) (H : Hp) (x : V) : Prop where
  any : AnyT K H x
  ne : ∀ a, x = .ref a → D a
def Flat : V → Prop
  | .ref _ => False
  | .ty _ => False
  | .byt _ => False
  | _ => True
theorem Good.flat {K : PySem.W.Frag} {D : Addr → Prop} {H : Hp} : ∀ {x : V}, Flat x → Good K D H x
  | .non, _ => ⟨⟨_, .non, _, rfl⟩, fun _ z => by cases z⟩
  | .bl b, _ => ⟨⟨_, .bl b, _, rfl⟩, fun _ z => by cases z⟩
  | .int i, _ => ⟨⟨_, .int i, _, rfl⟩, fun _ z => by cases z⟩
  | .str s, _ => ⟨⟨_, .str s, _, rfl⟩, fun _ z => by cases z⟩
  | .flt s, _ => ⟨⟨_, .flt s, _, rfl⟩, fun _ z => by cases z⟩
theorem Good.tup {K : PySem.W.Frag} {D : Addr → Prop} {a : Addr} {H : Hp} {xs : List V} (h : H a = some (.tup xs)) (n : D a) : Good K D H (.ref a) := ⟨⟨_, .tup h, _, rfl⟩, fun _ z => V.ref.inj z ▸ n⟩
theorem Good.lst {K : PySem.W.Frag} {D : Addr → Prop} {a : Addr} {H : Hp} {xs : List V} (h : H a = some (.lst xs)) (n : D a) : Good K D H (.ref a) := ⟨⟨_, .lst h, _, rfl⟩, fun _ z => V.ref.inj z ▸ n⟩
theorem Good.dK {K : PySem.W.Frag} {D : Addr → Prop} {a : Addr} {H : Hp} (h : H a = some (.dK [])) (n : D a) : Good K D H (.ref a) := ⟨⟨_, .dK h, _, rfl⟩, fun _ z => V.ref.inj z ▸ n⟩
theorem Good.mono {K : PySem.W.Frag} {D D' : Addr → Prop} {H : Hp} {x : V} (s : ∀ a, D a → D' a) (g : Good K D H x) : Good K D' H x := ⟨g.any, fun a e => s a (g.ne a e)⟩
theorem Good.keep {K : PySem.W.Frag} {D : Addr → Prop} {H H' : Hp} {x : V} (B : Keeps D H H') (g : Good K D H x) : Good K D H' x := by
  obtain ⟨⟨T, h, t, et⟩, ne⟩ := g
  refine ⟨?_, ne⟩
  cases h with
  | non => exact ⟨_, .non, _, rfl⟩
  | bl b => exact ⟨_, .bl b, _, rfl⟩
  | int i => exact ⟨_, .int i, _, rfl⟩
  | str x => exact ⟨_, .str x, _, rfl⟩
  | flt x => exact ⟨_, .flt x, _, rfl⟩
  | lst e => exact ⟨_, .lst (B _ _ e (ne _ rfl)), _, rfl⟩
  | frz e => exact ⟨_, .frz (B _ _ e (ne _ rfl)), _, rfl⟩
  | tup e => exact ⟨_, .tup (B _ _ e (ne _ rfl)), _, rfl⟩
  | dK e => exact ⟨_, .dK (B _ _ e (ne _ rfl)), _, rfl⟩
  | dT e => exact ⟨_, .dT (B _ _ e (ne _ rfl)), _, rfl⟩
  | ins e _ _ _ _ _ => cases et
/-- all of a row are such -/
def Goods (K : PySem.W.Frag) (D : Addr → Prop) (H : Hp) (xs : List V) : Prop := ∀ x ∈ xs, Good K D H x
theorem Goods.keep {K : PySem.W.Frag} {D : Addr → Prop} {H H' : Hp} {xs : List V} (B : Keeps D H H') (g : Goods K D H xs) : Goods K D H' xs := fun x hx => (g x hx).keep B
theorem Goods.mono {K : PySem.W.Frag} {D D' : Addr → Prop} {H : Hp} {xs : List V} (s : ∀ a, D a → D' a) (g : Goods K D H xs) : Goods K D' H xs := fun x hx => (g x hx).mono s
theorem Goods.nil {K : PySem.W.Frag} {D : Addr → Prop} {H : Hp} : Goods K D H [] := fun x hx => by simp at hx
theorem Goods.cons {K : PySem.W.Frag} {D : Addr → Prop} {H : Hp} {x : V} {xs : List V} (a : Good K D H x) (b : Goods K D H xs) : Goods K D H (x :: xs) := fun y hy => by
  rcases List.mem_cons.mp hy with rfl | z
  · exact a
  · exact b y z
theorem Goods.app {K : PySem.W.Frag} {D : Addr → Prop} {H : Hp} {xs ys : List V} (a : Goods K D H xs) (b : Goods K D H ys) : Goods K D H (xs ++ ys) := fun y hy => by
  rcases List.mem_append.mp hy with z | z
  · exact a y z
  · exact b y z
theorem Goods.cut {K : PySem.W.Frag} {D : Addr → Prop} {H : Hp} {xs : List V} (a : Goods K D H xs) (lo hi : Option Int) : Goods K D H (cutV xs lo hi) := fun y hy => a y (List.mem_of_mem_drop (List.mem_of_mem_take hy))
/-- a thing, and what is in it where it is a row -/
structure Thing (K : PySem.W.Frag) (D : Addr → Prop) (H : Hp) (x : V) : Prop where
  good : Good K D H x
  row : ∀ xs, rowOf H x = some xs → Goods K D H xs
theorem Thing.flat {K : PySem.W.Frag} {D : Addr → Prop} {H : Hp} {x : V} (h : Flat x) : Thing K D H x := ⟨Good.flat h, fun xs e => by cases x <;> first | cases e | exact h.elim⟩
theorem Thing.tup {K : PySem.W.Frag} {D : Addr → Prop} {a : Addr} {H : Hp} {xs : List V} (h : H a = some (.tup xs)) (n : D a) (g : Goods K D H xs) : Thing K D H (.ref a) := ⟨Good.tup h n, fun ys e => by
  rw [rowOf_tup h] at e; obtain rfl := Option.some.inj e; exact g⟩
theorem Thing.lst {K : PySem.W.Frag} {D : Addr → Prop} {a : Addr} {H : Hp} {xs : List V} (h : H a = some (.lst xs)) (n : D a) : Thing K D H (.ref a) := ⟨Good.lst h n, fun ys e => by
  obtain ⟨b, e1, e2⟩ := rowOf_some e
  cases e1; rw [h] at e2; cases e2⟩
theorem Thing.dK {K : PySem.W.Frag} {D : Addr → Prop} {a : Addr} {H : Hp} (h : H a = some (.dK [])) (n : D a) : Thing K D H (.ref a) := ⟨Good.dK h n, fun ys e => by
  obtain ⟨b, e1, e2⟩ := rowOf_some e
  cases e1; rw [h] at e2; cases e2⟩
theorem Thing.mono {K : PySem.W.Frag} {D D' : Addr → Prop} {H : Hp} {x : V} (s : ∀ a, D a → D' a) (g : Thing K D H x) : Thing K D' H x := ⟨g.good.mono s, fun xs e => (g.row xs e).mono s⟩
theorem Thing.keep {K : PySem.W.Frag} {D : Addr → Prop} {H H' : Hp} {x : V} (B : Keeps D H H') (g : Thing K D H x) : Thing K D H' x := by
  refine ⟨g.good.keep B, fun xs e => ?_⟩
  obtain ⟨a, rfl, ha⟩ := rowOf_some e
  obtain ⟨⟨T, h, t, et⟩, ne⟩ := g.good
  have nl : D a := ne a rfl
  cases h with
  | lst e => rw [B _ _ e nl] at ha; cases ha
  | frz e => rw [B _ _ e nl] at ha; cases ha
  | tup e => rw [B _ _ e nl] at ha; cases ha; exact (g.row _ (rowOf_tup e)).keep B
  | dK e => rw [B _ _ e nl] at ha; cases ha
  | dT e => rw [B _ _ e nl] at ha; cases ha
  | ins e _ _ _ _ _ => cases et
def Things (K : PySem.W.Frag) (D : Addr → Prop) (H : Hp) (xs : List V) : Prop := ∀ x ∈ xs, Thing K D H x
theorem Things.keep {K : PySem.W.Frag} {D : Addr → Prop} {H H' : Hp} {xs : List V} (B : Keeps D H H') (g : Things K D H xs) : Things K D H' xs := fun x hx => (g x hx).keep B
theorem Things.mono {K : PySem.W.Frag} {D D' : Addr → Prop} {H : Hp} {xs : List V} (s : ∀ a, D a → D' a) (g : Things K D H xs) : Things K D' H xs := fun x hx => (g x hx).mono s
theorem Things.nil {K : PySem.W.Frag} {D : Addr → Prop} {H : Hp} : Things K D H [] := fun x hx => by simp at hx
theorem Things.cons {K : PySem.W.Frag} {D : Addr → Prop} {H : Hp} {x : V} {xs : List V} (a : Thing K D H x) (b : Things K D H xs) : Things K D H (x :: xs) := fun y hy => by
  rcases List.mem_cons.mp hy with rfl | z
  · exact a
  · exact b y z
theorem Things.app {K : PySem.W.Frag} {D : Addr → Prop} {H : Hp} {xs ys : List V} (a : Things K D H xs) (b : Things K D H ys) : Things K D H (xs ++ ys) := fun y hy => by
  rcases List.mem_append.mp hy with z | z
  · exact a y z
  · exact b y z
/-- no list of this heap -/
def NoLst (H : Hp) (a : Addr) : Prop := ∀ xs, H a ≠ some (.lst xs)
theorem PkAt.noD {H : Hp} {l : Addr} (S : PkAt H l) : ¬ NoLst H l := fun z => by
  obtain ⟨a, b, e, _⟩ := S.ex
  exact z _ e
theorem noL_new {H H1 : Hp} {l p : Addr} (B : But l H H1) (S : PkAt H1 l) (h : H1 p = none) : NoLst H p := fun xs e => by
  by_cases z : p = l
  · subst z; obtain ⟨_, _, q, _⟩ := S.ex; rw [q] at h; cases h
  · rw [B p _ e z] at h; cases h
theorem noL_tup {H H1 : Hp} {l p : Addr} {ys : List V} (B : But l H H1) (S : PkAt H1 l) (h : H1 p = some (.tup ys)) : NoLst H p := fun xs e => by
  by_cases z : p = l
  · subst z; obtain ⟨_, _, q, _⟩ := S.ex; rw [q] at h; cases h
  · rw [B p _ e z] at h; cases h
end Bn
end
section
set_option maxHeartbeats 4000001
namespace L2
open PySem PySem.Spec PyProof.Rows Own
/-! ### one tuple less than another -/
def LtAt (A : Around) (s : Shared) (y x : Value) (b : Bool) : Prop := ∀ (prog : Program) (w : World) (E : Value → Shared → Prop) (Q : Value → Shared → Prop), Q (.bool b) s → wpAny (model prog w) A (richCompare .Lt y x) Q E s
theorem LtAt.ints {A : Around} {s : Shared} (a b : Int) (t u : Tok) : LtAt A s (.int a t) (.int b u) (decide (a < b)) := fun _ _ _ _ h => lt_int h
/-- the first pair that differs tells -/
theorem ltTup_meets (l b : Addr) (xs ys : Array Value) (n m : Nat) (d1 d2 : Option Addr) (sl1 sl2 : Array (Option Value)) (k : Nat) (k1 : k < xs.size) (k2 : k < ys.size) (c : Bool) :
    Meets (Builtin.«tuple.__lt__» ⟨[.ref l, .ref b], []⟩)
      (fun A R s => s.heap.get? l = some { cls := .type "tuple", dict := d1, data := .seq xs n, slots := sl1 } ∧ s.heap.get? b = some { cls := .type "tuple", dict := d2, data := .seq ys m, slots := sl2 } ∧
        (∀ j (h1 : j < xs.size) (h2 : j < ys.size), j < k → SeqAt.EqAt A.in1 s xs[j] ys[j] true) ∧ SeqAt.EqAt A.in1 s xs[k] ys[k] false ∧ LtAt A.in1 s xs[k] ys[k] c ∧ R (.ok (.ret (.bool c))) s) :=
  .of_wp fun prog w A R s h => by
    obtain ⟨hp, g, d, tk, os⟩ := s; obtain ⟨hl, hb, he, hk, hc, h⟩ := h
    have kinds := AutoSeq1.sub_tuple_tuple
    have zl : (xs.toList.zip ys.toList).length = min xs.size ys.size := by simp
    wp_walk using wpAny_loadPart' hl, wpAny_loadPart' hb, wpAny_forIn_list _ (fun rest b s' => b.1 = none ∧ s' = ⟨hp, g, d, tk, os⟩ ∧ ∃ i, i ≤ k ∧ rest = (xs.toList.zip ys.toList).drop i) _
    case turn =>
      rintro ⟨y, x⟩ rest b s' ⟨hb', rfl, i, ik, hz⟩
      have i1 : i < xs.size := by omega
      have i2 : i < ys.size := by omega
      have il : i < (xs.toList.zip ys.toList).length := by rw [zl]; omega
      rw [List.drop_eq_getElem_cons il] at hz
      obtain ⟨e1, e2⟩ := List.cons.inj hz
      have ey : y = xs[i] := by simpa using congrArg Prod.fst e1
      have ex : x = ys[i] := by simpa using congrArg Prod.snd e1
      subst ey ex
      by_cases z : i = k
      · subst z
        refine wpAny_bind (hk prog w _ _ ?_)
        simp only [if_true, Bool.not_false]
        refine wpAny_bind (wpAny_rule (wpAny_bind (hc prog w _ _ ?_)))
        wp_walk
        exact ⟨_, rfl, h⟩
      · refine wpAny_bind (he i i1 i2 (by omega) prog w _ _ ?_)
        wp_walk
        exact ⟨rfl, rfl, i + 1, by omega, e2⟩
    case fin =>
      rintro ⟨b1, b2⟩ s' ⟨hb', rfl, i, ik, hz⟩
      have il : i < (xs.toList.zip ys.toList).length := by rw [zl]; omega
      rw [List.drop_eq_getElem_cons il] at hz; cases hz
    case h =>
      exact ⟨rfl, rfl, 0, Nat.zero_le _, rfl⟩
theorem LtAt.tuples {A : Around} {s : Shared} {l b : Addr} {xs ys : Array Value} {k : Nat} {c : Bool} (hl : IsTup s.heap l xs) (hb : IsTup s.heap b ys) (hu : A.units < cLine) (k1 : k < xs.size) (k2 : k < ys.size)
    (he : ∀ j (h1 : j < xs.size) (h2 : j < ys.size), j < k → SeqAt.EqAt A.in1 s xs[j] ys[j] true) (hk : SeqAt.EqAt A.in1 s xs[k] ys[k] false) (hc : LtAt A.in1 s xs[k] ys[k] c) : LtAt A s (.ref l) (.ref b) c := fun prog w E Q h => by
  obtain ⟨⟨cl1, dd1, da1, sl1⟩, o1, c1, n, e1⟩ := hl
  obtain ⟨⟨cl2, dd2, da2, sl2⟩, o2, c2, m, e2⟩ := hb
  simp only at c1 e1 c2 e2; subst c1 e1 c2 e2
  exact richCompare_meets_room (op := .Lt) ⟨_, o1, rfl⟩ ⟨_, o2, rfl⟩ F.slot_tuple_lt F.entry_tuple_lt (F.args_tuple_lt_2 _ _) (ltTup_meets l b xs ys n m dd1 dd2 sl1 sl2 k k1 k2 c) ⟨o1, o2, he, hk, hc, show Value.bool c ≠ Value.notImplemented ∧ Q (.bool c) s from ⟨(fun x => nomatch x), h⟩⟩ hu
/-! ### min of a row whose first one is the least -/
section
variable {prog : Program} {w : World} {A : Around} {R : Result → Shared → Prop} {I S : Addr} {fp wr : List Addr} {n : Nat} {P : Nat → Value → Prop} {St : Nat → Heap → Prop}
theorem minF_loop (W : Walks prog w A.in1 I fp wr n P St) (away : S ∉ fp) (h0 : Heap) (vb : Value)
    (more : ∀ j v (s : Shared) (Q : Value → Shared → Prop) (E : Value → Shared → Prop), 0 < j → P j v → (∀ b o, b ∉ wr → b ≠ S → h0.get? b = some o → s.heap.get? b = some o) → Q (.bool false) s → wpAny (model prog w) A.in1 (richCompare .Lt v vb) Q E s) :
    ∀ (m j : Nat) (s : Shared) (c : Nat), j + m = n → 0 < j → St j s.heap → s.heap.get? S = some { cls := .type "list", dict := none, data := .seq #[vb, vb] c, slots := #[] } → (∀ b o, b ∉ wr → b ≠ S → h0.get? b = some o → s.heap.get? b = some o) →
      (∀ h' tk, (∀ b o, b ∉ wr → b ≠ S → s.heap.get? b = some o → h'.get? b = some o) → R (.ok (.ret vb)) { s with heap := h', toks := tk }) → codeAny (model prog w) A (.builtin "min.loop" ⟨[.ref I, .none, .ref S], []⟩) R s := by
  have out : S ∉ wr := fun z => away (W.sub _ z)
  have nm : (toString "min" ++ toString ".loop" : String) = "min.loop" := by decide
  intro m
  induction m with
  | zero =>
    intro j s c jm jp st hs old k
    obtain rfl : j = n := by omega
    refine codeAny_builtin F.entry_min_loop (by
      refine Around.under_plainId F.plain_min_loop _ ▸ (show wpAny _ A.in1 (seqItems? (.ref S) >>= _) _ _ _ from ?_)
      refine wpAny_bind (wpAny_seqItems hs rfl (show wpAny _ A.in1 (tryCatch (pyNext (.ref I)) _ >>= _) _ _ _ from wpAny_bind (wpAny_tryCatch (W.done s _ _ st fun h1 tk1 keep => ?_))))
      have hs1 := keep S _ out hs
      show wpAny _ A.in1 (updateSeq S (fun _ => #[]) >>= _) _ _ _; exact wpAny_bind (wpAny_updateSeq hs1 rfl (wpAny_bind (wpAny_letGo (wpAny_pure (k _ tk1 fun b o hb bS e => (Heap.get?_update_other _ _ (Ne.symm bS)).trans (keep b o hb e)))))))
  | succ m ih =>
    intro j s c jm jp st hs old k
    refine codeAny_builtin F.entry_min_loop (by
      refine Around.under_plainId F.plain_min_loop _ ▸ (show wpAny _ A.in1 (seqItems? (.ref S) >>= _) _ _ _ from ?_)
      refine wpAny_bind (wpAny_seqItems hs rfl (show wpAny _ A.in1 (tryCatch (pyNext (.ref I)) _ >>= _) _ _ _ from wpAny_bind (wpAny_tryCatch (W.item j s _ _ (by omega) st fun v h1 tk1 pv st1 keep => ?_))))
      have hs1 := keep S _ out hs
      show wpAny _ A.in1 (tryCatch (holding [v, v] (richCompare .Lt v vb >>= _)) _ >>= _) _ _ _; refine wpAny_bind (wpAny_tryCatch (wpAny_holding (wpAny_bind (more j v _ _ _ jp pv (fun b o hb bS e => keep b o hb (old b o hb bS e)) (wpAny_bind (wpAny_holding (wpAny_truthy_bool (wpAny_bind (wpAny_letGo (wpAny_pure ?_))))))))))
      rw [if_neg Bool.false_ne_true]
      refine wpAny_bind (wpAny_letGo ?_)
      rw [nm]
      exact wpAny_pure ⟨plainId_quiet F.plain_min_loop _, ih (j + 1) _ _ (by omega) (by omega) st1 hs1 (fun b o hb bS e => keep b o hb (old b o hb bS e)) fun h2 tk2 keep2 => k h2 tk2 fun b o hb bS e => keep2 b o hb bS (keep b o hb e)⟩)
end
section
variable {prog : Program} {w : World} {A : Around} {E : Value → Shared → Prop} {s : Shared}
theorem minF_walk {x : Value} {Q : Value → Shared → Prop}
    (h : wpAny (model prog w) A.in1 (pyIter x) (fun it s2 => ∃ (I : Addr) (fp wr : List Addr) (n : Nat) (P : Nat → Value → Prop) (St : Nat → Heap → Prop), it = .ref I ∧ Walks prog w A.in1 I fp wr n P St ∧ St 0 s2.heap ∧ (∀ b ∈ fp, b < s2.heap.objs.size) ∧ 0 < n ∧
      ∃ vb, (∀ v, P 0 v → v = vb) ∧ (∀ j v (s : Shared) (Q : Value → Shared → Prop) (E : Value → Shared → Prop), 0 < j → P j v → (∀ b o, b ∉ wr → s2.heap.get? b = some o → s.heap.get? b = some o) → Q (.bool false) s → wpAny (model prog w) A.in1 (richCompare .Lt v vb) Q E s) ∧
      ∀ h' tk, (∀ b o, b ∉ wr → s2.heap.get? b = some o → h'.get? b = some o) → Q vb { s2 with heap := h', toks := tk }) E s) : wpAny (model prog w) A (call (.builtin "min") [x]) Q E s := by
  have nm : (toString "min" ++ toString ".loop" : String) = "min.loop" := by decide
  refine call_function_tree F.kind_min F.plain_min F.entry_min (F.args_min1 _) ?_; show wpAny _ A.in1 (Builtin.Builtins.bindParams "min" ["key", "default"] 0 ⟨[], []⟩ >>= _) _ _ s
  refine wpAny_bind (wpAny_of_eq (show Builtin.Builtins.bindParams "min" ["key", "default"] 0 ⟨[], []⟩ = pure [none, none] from rfl) (wpAny_bind (wpAny_pure (wpAny_bind (wpAny_mono h (fun it s2 z => ?_) fun _ _ e => e)))))
  obtain ⟨I, fp, wr, n, P, St, rfl, W, st, low, pos, vb, first, more, k⟩ := z
  have away : s2.heap.objs.size ∉ fp := fun z => Nat.lt_irrefl _ (low _ z)
  have out : s2.heap.objs.size ∉ wr := fun z => away (W.sub _ z)
  refine wpAny_bind (wpAny_newObj_type ?_); rw [nm]
  refine wpAny_pure ⟨plainId_quiet F.plain_min_loop _, codeAny_builtin F.entry_min_loop ?_⟩
  have new : (s2.heap.push { cls := .type "list", data := .seq #[] }).get? s2.heap.objs.size = some { cls := .type "list", dict := none, data := .seq #[] 0, slots := #[] } := Heap.get?_push_size _ rfl
  have st' : St 0 (s2.heap.push { cls := .type "list", data := .seq #[] }) := W.frame _ _ _ st fun b _ o e => Heap.get?_push_of_some _ e
  refine Around.under_plainId F.plain_min_loop _ ▸ (show wpAny _ A.in1 (seqItems? (.ref s2.heap.objs.size) >>= _) _ _ _ from ?_)
  refine wpAny_bind (wpAny_seqItems new rfl (show wpAny _ A.in1 (tryCatch (pyNext (.ref I)) _ >>= _) _ _ _ from wpAny_bind (wpAny_tryCatch (W.item 0 _ _ _ pos st' fun v h1 tk1 pv st1 keep => ?_))))
  obtain rfl := first v pv
  have new1 := keep _ _ out new
  show wpAny _ A.in1 (updateSeq s2.heap.objs.size (fun _ => #[v, v]) >>= _) _ _ _
  refine wpAny_bind (wpAny_updateSeq new1 rfl ?_)
  rw [nm]
  have up : ∀ b o, b ∉ wr → b ≠ s2.heap.objs.size → s2.heap.get? b = some o → (h1.update s2.heap.objs.size (Obj.mapSeq fun _ => #[v, v])).get? b = some o := fun b o hb bS e => (Heap.get?_update_other _ _ (Ne.symm bS)).trans (keep b o hb (Heap.get?_push_of_some _ e))
  refine wpAny_pure ⟨plainId_quiet F.plain_min_loop _, minF_loop W away s2.heap v (fun j u s' Q' E' jp pu old q => more j u s' Q' E' jp pu (fun b o hb e => old b o hb (Nat.ne_of_lt (Heap.lt_size e)) e) q) (n - 1) 1 _ _ (by omega) (by omega) (W.frame _ _ _ st1 fun b hb o e => (Heap.get?_update_other _ _ (fun z => away (by rw [z]; exact hb))).trans e) (Heap.get?_update_self _ new1 rfl) up fun h2 tk2 keep2 => ?_⟩
  exact k h2 tk2 fun b o hb e => keep2 b o hb (Nat.ne_of_lt (Heap.lt_size e)) (up b o hb (Nat.ne_of_lt (Heap.lt_size e)) e)
end
section
variable {X : Cx}
/-- rows of three ints -/
def Trip (H : Hp) (x : V) (a b c : Int) : Prop := ∃ t, x = .ref t ∧ H t = some (.tup [.int a, .int b, .int c])
/-- min of a list of rows of three, of which the first is less than all others -/
theorem call_minT (hc : X.calm = true) (hu : X.A.units + 64 < cLine) : CallR X (.builtin "min") (fun vs H Q => ∃ a x xs p q r, vs = [.ref a] ∧ SqL X.K H a (x :: xs) ∧ Trip H x p q r ∧ (∀ y ∈ xs, ∃ p' q' r', Trip H y p' q' r' ∧ (p < p' ∨ p = p' ∧ (q < q' ∨ q = q' ∧ r < r'))) ∧ Q x H) := by
  rintro pins s σ H vs us Q I rv ⟨a, x, xs, p, q, r, rfl, hq, ⟨t, rfl, ht⟩, hxs, k⟩
  obtain ⟨u, rfl, ru⟩ := rv.one
  cases ru
  obtain ⟨its, rr, pp⟩ := I.sq (b := true) hq
  obtain ⟨o, n, eo, _⟩ := pp.ob
  have hl : its.length = xs.length + 1 := by rw [← rr.length]; rfl
  obtain ⟨bts, rb, pb, _⟩ := I.tuple (SqT.of ht)
  obtain ⟨w1, w2, w3, rfl, ⟨k1, rfl⟩, ⟨k2, rfl⟩, ⟨k3, rfl⟩⟩ : ∃ w1 w2 w3, bts = [w1, w2, w3] ∧ RelV (.int p) w1 ∧ RelV (.int q) w2 ∧ RelV (.int r) w3 := by
    cases rb with
    | cons r1 rb => cases rb with
      | cons r2 rb => cases rb with
        | cons r3 rb => cases rb; exact ⟨_, _, _, rfl, r1, r2, r3⟩
  refine minF_walk (iter_of pp ⟨s.heap.objs.size, [s.heap.objs.size, a], [s.heap.objs.size], its.toArray.size, (fun i v => its.toArray[i]? = some v), _, rfl, walkB (show X.A.in1.handled = none from I.ok.hd hc) true _ a (Nat.ne_of_lt (Heap.lt_size eo)) its.toArray, ⟨⟨_, Heap.get?_push_size _ rfl, rfl, rfl⟩, pp.mv fun o e => Heap.get?_push_of_some _ e⟩, fun c hm => ?_, by rw [List.size_toArray]; omega, .ref t, fun v hv => ?_, ?_, ?_⟩)
  · show c < (s.heap.push _).objs.size
    rw [Heap.size_push]
    rcases List.mem_cons.mp hm with z | z
    · exact z ▸ Nat.lt_succ_self _
    · exact List.mem_singleton.mp z ▸ Nat.lt_succ_of_lt (Heap.lt_size eo)
  · obtain ⟨u', e', ru⟩ := rr.get (i := 0) (x := .ref t) rfl
    have hv' : its[0]? = some v := by simpa using hv
    rw [hv'] at e'; obtain rfl := Option.some.inj e'; exact ru
  · intro j v s' Q' E' jp hv old q'
    have hv' : its[j]? = some v := by simpa using hv
    have jl : j < (V.ref t :: xs).length := by
      have := (List.getElem?_eq_some_iff.mp hv').1
      rw [List.length_cons]; omega
    obtain ⟨j', rfl⟩ : ∃ j', j = j' + 1 := ⟨j - 1, by omega⟩
    obtain ⟨u', e', ru⟩ := rr.get (List.getElem?_eq_getElem jl)
    rw [hv'] at e'; obtain rfl := Option.some.inj e'
    have ym : (V.ref t :: xs)[j' + 1] ∈ xs := by rw [List.getElem_cons_succ]; exact List.getElem_mem _
    obtain ⟨p', q1, r', ⟨t', ey, hy⟩, less⟩ := hxs _ ym
    rw [ey] at ru; cases ru
    obtain ⟨cts, rc, pc, _⟩ := I.tuple (SqT.of hy)
    obtain ⟨v1, v2, v3, rfl, ⟨m1, rfl⟩, ⟨m2, rfl⟩, ⟨m3, rfl⟩⟩ : ∃ w1 w2 w3, cts = [w1, w2, w3] ∧ RelV (.int p') w1 ∧ RelV (.int q1) w2 ∧ RelV (.int r') w3 := by
      cases rc with
      | cons r1 rc => cases rc with
        | cons r2 rc => cases rc with
          | cons r3 rc => cases rc; exact ⟨_, _, _, rfl, r1, r2, r3⟩
    have mv : ∀ {c : Addr} {zs : Array Value}, IsTup s.heap c zs → IsTup s'.heap c zs := fun {c zs} z => by
      obtain ⟨o', e1, e2⟩ := z
      refine ⟨o', old c o' (fun z => ?_) (Heap.get?_push_of_some _ e1), e2⟩
      exact Nat.ne_of_lt (Heap.lt_size e1) (List.mem_singleton.mp z)
    have T1 := mv pc
    have T2 := mv pb
    have ne : ∀ {A' : Around} (i j : Int) (t1 t2 : Tok), i ≠ j → SeqAt.EqAt A' s' (.int i t1) (.int j t2) false := fun {A'} i j t1 t2 h => by
      have := eqAt_V (A := A') (s := s') (x := .int j) (y := .int i) ⟨t1, rfl⟩ ⟨t2, rfl⟩ rfl rfl
      have e : eqV (.int i) (.int j) = false := by simp [eqV, h]
      rwa [e] at this
    have eq : ∀ {A' : Around} (i : Int) (t1 t2 : Tok), SeqAt.EqAt A' s' (.int i t1) (.int i t2) true := fun {A'} i t1 t2 => eqAt_flat (x := .int i) rfl ⟨t1, rfl⟩ ⟨t2, rfl⟩
    have lt : ∀ {A' : Around} (i j : Int) (t1 t2 : Tok), j < i → LtAt A' s' (.int i t1) (.int j t2) false := fun {A'} i j t1 t2 h => by
      have := LtAt.ints (A := A') (s := s') i j t1 t2
      rwa [decide_eq_false (by omega)] at this
    have hu1 : X.A.in1.units < cLine := by show X.A.units + 1 < cLine; omega
    rcases less with l1 | ⟨rfl, l2 | ⟨rfl, l3⟩⟩
    · exact LtAt.tuples (k := 0) T1 T2 hu1 (by show 0 < 3; decide) (by show 0 < 3; decide) (fun j _ _ h => absurd h (Nat.not_lt_zero _)) (ne _ _ _ _ (by omega)) (lt _ _ _ _ l1) X.prog X.w _ _ q'
    · refine LtAt.tuples (k := 1) T1 T2 hu1 (by show 1 < 3; decide) (by show 1 < 3; decide) (fun j _ _ h => ?_) (ne _ _ _ _ (by omega)) (lt _ _ _ _ l2) X.prog X.w _ _ q'
      obtain rfl : j = 0 := by omega
      exact eq _ _ _
    · refine LtAt.tuples (k := 2) T1 T2 hu1 (by show 2 < 3; decide) (by show 2 < 3; decide) (fun j _ _ h => ?_) (ne _ _ _ _ (by omega)) (lt _ _ _ _ l3) X.prog X.w _ _ q'
      rcases j with _ | _ | j
      · exact eq _ _ _
      · exact eq _ _ _
      · omega
  · intro h' tk hk
    exact ⟨.ref t, H, I.kept (t' := tk) fun c o e => hk c o (fun z => Nat.ne_of_lt (Heap.lt_size e) (List.mem_singleton.mp z)) (Heap.get?_push_of_some _ e), rfl, k⟩
end
end L2
end
section
set_option maxHeartbeats 4000001
/-! comprehensions with a test, over tuples and lists -/
namespace L2
open PySem PySem.Spec PyProof.Rows Own
theorem lc_tupT {K : PySem.W.Frag} {a : Addr} {xs : List V} {g : TG} {tt : TT} {te : TE} {l : Addr} {σ : St} {H : Hp} {Q : VK} (Pv : Nat → List V → St → Hp → Prop) (h0 : Pv 0 [] σ H) (hl : ∀ i acc σ H, Pv i acc σ H → H l = some (.lst acc) ∧ SqT K H a xs)
    (hs : ∀ i x acc σ H, xs[i]? = some x → Pv i acc σ H → g x σ H fun σ3 H3 => tt σ3 H3 fun b H4 => if b = true then te σ3 H4 fun y H5 => H5 l = some (.lst acc) ∧ acc.length < sizeLine ∧ Nx xs.length i (Pv (i + 1) (acc ++ [y]) σ3 (upd H5 l (.lst (acc ++ [y])))) else Nx xs.length i (Pv (i + 1) acc σ3 H4))
    (hd : ∀ acc σ H, Pv xs.length acc σ H → Q (.ref l) H) : ∃ W : Nat → Nat → List V → St → Hp → Prop, (∃ m, W 0 m [] σ H) ∧ LCW (Itt K a) g tt te l Q W := by
  refine ⟨fun i m acc σ H => m = xs.length - i ∧ i ≤ xs.length ∧ Pv i acc σ H, ⟨_, rfl, Nat.zero_le _, h0⟩, ?_⟩
  rintro i m acc σ H ⟨rfl, hi, p⟩
  obtain ⟨q0, q1⟩ := hl i acc σ H p
  refine ⟨q0, ?_⟩
  by_cases hlt : i < xs.length
  · refine .inr ⟨⟨xs, xs[i], q1, List.getElem?_eq_getElem hlt⟩, fun x H2 ⟨e, y⟩ => ?_⟩
    subst e
    exact hs i x acc σ _ (y xs q1) p
  · obtain rfl : i = xs.length := by omega
    exact .inl ⟨⟨xs, q1, Nat.le_refl _⟩, hd acc σ H p⟩
theorem lc_listT {K : PySem.W.Frag} {a : Addr} {xs : List V} {g : TG} {tt : TT} {te : TE} {l : Addr} {σ : St} {H : Hp} {Q : VK} (Pv : Nat → List V → St → Hp → Prop) (h0 : Pv 0 [] σ H) (hl : ∀ i acc σ H, Pv i acc σ H → H l = some (.lst acc) ∧ SqL K H a xs)
    (hs : ∀ i x acc σ H, xs[i]? = some x → Pv i acc σ H → g x σ H fun σ3 H3 => tt σ3 H3 fun b H4 => if b = true then te σ3 H4 fun y H5 => H5 l = some (.lst acc) ∧ acc.length < sizeLine ∧ Nx xs.length i (Pv (i + 1) (acc ++ [y]) σ3 (upd H5 l (.lst (acc ++ [y])))) else Nx xs.length i (Pv (i + 1) acc σ3 H4))
    (hd : ∀ acc σ H, Pv xs.length acc σ H → Q (.ref l) H) : ∃ W : Nat → Nat → List V → St → Hp → Prop, (∃ m, W 0 m [] σ H) ∧ LCW (Itl K a) g tt te l Q W := by
  refine ⟨fun i m acc σ H => m = xs.length - i ∧ i ≤ xs.length ∧ Pv i acc σ H, ⟨_, rfl, Nat.zero_le _, h0⟩, ?_⟩
  rintro i m acc σ H ⟨rfl, hi, p⟩
  obtain ⟨q0, q1⟩ := hl i acc σ H p
  refine ⟨q0, ?_⟩
  by_cases hlt : i < xs.length
  · refine .inr ⟨⟨xs, xs[i], q1, List.getElem?_eq_getElem hlt⟩, fun x H2 ⟨e, y⟩ => ?_⟩
    subst e
    exact hs i x acc σ _ (y xs q1) p
  · obtain rfl : i = xs.length := by omega
    exact .inl ⟨⟨xs, q1, Nat.le_refl _⟩, hd acc σ H p⟩
/-! ### any tuple turned about -/
theorem adjust_back (n : Nat) : Builtin.Slice.sliceAdjust none none (-1) (n : Int) = ((n : Int) - 1, -1) := by
  unfold Builtin.Slice.sliceAdjust
  rfl
theorem places_back (n : Nat) : Builtin.Slice.slicePlaces ((n : Int) - 1) (-1) (-1) = n := by
  unfold Builtin.Slice.slicePlaces
  by_cases z : n = 0
  · subst z; rfl
  · simp
    omega
theorem pick_back (vs : List Value) : ((List.range vs.length).filterMap fun (k : Nat) => (vs.toArray)[(((vs.length : Int) - 1) + (k : Int) * (-1)).toNat]?).toArray = vs.reverse.toArray := by
  congr 1
  have e : ∀ k, k < vs.length → (vs.toArray)[(((vs.length : Int) - 1) + (k : Int) * (-1)).toNat]? = vs.reverse[k]? := fun k hk => by
    rw [List.getElem?_reverse hk, List.getElem?_toArray]
    congr 1
    omega
  have all : ∀ (ws : List Value) (f : Nat → Option Value), (∀ k, k < ws.length → f k = ws[k]?) → (List.range ws.length).filterMap f = ws := by
    intro ws
    induction ws with
    | nil => intro f _; rfl
    | cons a ws ih =>
      intro f hf
      rw [List.length_cons, List.range_succ_eq_map, List.filterMap_cons, hf 0 (by simp), List.filterMap_map]
      show a :: _ = _
      congr 1
      exact ih (f ∘ Nat.succ) fun k hk => by show f (k + 1) = _; rw [hf (k + 1) (by simpa using hk)]; rfl
  have := all vs.reverse (fun k => (vs.toArray)[(((vs.length : Int) - 1) + (k : Int) * (-1)).toNat]?) (fun k hk => e k (by simpa using hk))
  rwa [List.length_reverse] at this
section
variable {prog : Program} {w : World} {A : Around} {E : Value → Shared → Prop} {s : Shared}
theorem applied_backA (n : Nat) {sl : Addr} {t : Tok} {Q : Int × Int × Nat → Shared → Prop} (hs : s.heap.IsSliceOf sl .none .none (.int (-1) t)) (h : Q ((n : Int) - 1, -1, n) s) : wpAny (model prog w) A (Builtin.Slice.sliceApplied (.ref sl) (pure (n : Int))) Q E s := by
  obtain ⟨os, hos, hcs, hds⟩ := id hs
  unfold Builtin.Slice.sliceApplied Builtin.Slice.sliceFields
  refine wpAny_bind (wpAny_bind (wpAny_field hos hds (x := .none) rfl (wpAny_bind (wpAny_field hos hds (x := .none) rfl (wpAny_bind (wpAny_field hos hds (x := .int (-1) t) rfl (wpAny_pure ?_)))))))
  refine wpAny_bind (slicePart_int ?_)
  show wpAny _ _ (if ((-1 : Int) == 0) = true then _ else _) _ _ s
  rw [if_neg (by decide)]
  refine wpAny_bind (slicePart_none (wpAny_bind (slicePart_none (wpAny_bind (wpAny_pure ?_)))))
  show wpAny _ _ (match Builtin.Slice.sliceAdjust none none (-1) (n : Int) with | (lo, hi) => pure (lo, (-1 : Int), Builtin.Slice.slicePlaces lo hi (-1))) _ _ s
  rw [adjust_back n]
  show wpAny _ _ (pure ((n : Int) - 1, (-1 : Int), Builtin.Slice.slicePlaces ((n : Int) - 1) (-1) (-1))) _ _ s
  rw [places_back n]
  exact wpAny_pure h
theorem getItem_backA {t sl : Addr} {vs : List Value} {tk : Tok} {Q : Value → Shared → Prop} (ht : IsTup s.heap t vs.toArray) (hz : vs.length ≤ sizeLine) (hs : s.heap.IsSliceOf sl .none .none (.int (-1) tk)) (h : Q (.ref s.heap.objs.size) { s with heap := s.heap.push { cls := .type "tuple", data := .seq vs.reverse.toArray } }) :
    wpAny (model prog w) A (getItem (.ref t) (.ref sl)) Q E s := by
  obtain ⟨os, hos, hcs, hds⟩ := id hs
  have hTs : s.TypeIs (.ref sl) "slice" := ⟨os, hos, hcs⟩
  unfold getItem
  try with_reducible refine wpAny_holding ?_
  first | refine wpAny_bind (wpAny_pure ?_) | skip
  refine wpAny_bind (wpAny_sequenceKey ht.typeIs (by decide) (wpAny_bind (wpAny_callSpecial?_slot (name := Str.ofString "__getitem__") ht.typeIs PyProof.Rows.slot_tuple_getitem (wpAny_call_entry PyProof.Rows.slot_tuple_getitem ht.typeIs PyProof.Rows.entry_tuple_getitem ?_ (PyProof.Rows.args_tuple_getitem _ _)))))
  show wpAny _ _ (Builtin.Tuple.tupleItemsOf (.ref t) >>= _) _ _ s
  refine wpAny_bind (tupleItemsOf_ ht (wpAny_bind (wpAny_typeOf hTs ?_)))
  rw [if_pos (by decide)]
  have sz : vs.toArray.size = vs.length := List.size_toArray ..
  rw [sz]
  refine wpAny_bind (applied_backA vs.length hs ?_)
  show wpAny _ _ (if (((vs.length : Int) - 1) == 0 && (-1 : Int) == 1 && vs.length == vs.toArray.size) = true then _ else _) _ _ s
  rw [if_neg (by rw [show ((-1 : Int) == 1) = false from rfl, Bool.and_false, Bool.false_and]; exact Bool.false_ne_true)]
  rw [pick_back]
  have lz : vs.reverse.toArray.size ≤ sizeLine := by rw [List.size_toArray, List.length_reverse]; exact hz
  first
    | exact wpAny_bind (m := Builtin.Tuple.tupleExact _) (wpAny_newObj_type (wpAny_pure ⟨_, rfl, wpAny_pure h⟩) lz)
    | exact wpAny_bind (m := Builtin.Tuple.tupleExact _) (wpAny_newObj_type (wpAny_bind (wpAny_pure (wpAny_pure ⟨_, rfl, wpAny_pure h⟩))) lz)
    | exact wpAny_bind (wpAny_bind (m := Builtin.Tuple.tupleExact _) (wpAny_newObj_type (wpAny_pure (wpAny_pure ⟨_, rfl, wpAny_pure h⟩)) lz))
    | exact wpAny_bind (wpAny_bind (m := Builtin.Tuple.tupleExact _) (wpAny_newObj_type (wpAny_pure ⟨_, rfl, wpAny_pure h⟩) lz))
end
section
variable {X : Cx}
def tBackA (K : PySem.W.Frag) (te : TE) (ts : TO) : TE := fun σ H Q => te σ H fun x H1 => ts σ H1 fun o H2 => o = some (-1) ∧ ∃ a xs, x = .ref a ∧ SqT K H2 a xs ∧ ∀ p, H2 p = none → Q (.ref p) (upd H2 p (.tup xs.reverse))
/-- t[::-1] of any tuple -/
theorem pe_backA {e st : Expr} {te : TE} {ts : TO} {p2 pos : Pos} (he : PE X e te) (hs : PO X (some st) ts) : PE X (.Subscript e (.Slice none none (some st) p2) pos) (tBackA X.K te ts) := by
  intro pins s σ H Q I h
  refine Subscript_ (thn (he pins s σ H _ I h) fun v s1 ⟨x, H1, I1, r1, q1⟩ => wpAny_Slice ?_)
  rw [evalPart_none]
  refine wpAny_pure (wpAny_pure (thn (hs pins s1 σ H1 _ I1 q1) fun vst s2 ⟨o, H2, I2, po, q2⟩ => ?_))
  obtain ⟨rfl, a, xs, rfl, hq, k⟩ := q2
  cases r1
  obtain ⟨t, rfl⟩ : ∃ t, vst = .int (-1) t := by cases po; exact ⟨_, rfl⟩
  have I3 : Inv X pins σ H2 { s2 with heap := s2.heap.push { cls := .type "slice", data := .fields #[.none, .none, .int (-1) t] } } := I2.kept (t' := s2.toks) fun b ob q => Heap.get?_push_of_some _ q
  obtain ⟨its, r, ht, hz⟩ := I3.tuple hq
  have hl := r.length
  show wpAny (model X.prog X.w) X.A (subscriptTail e (.Slice none none (some st) p2) (.ref a) (.ref s2.heap.objs.size)) (EP X pins σ Q) X.xe { s2 with heap := s2.heap.push { cls := .type "slice", data := .fields #[.none, .none, .int (-1) t] } }
  refine tail_any (ops := [.ref a, .ref s2.heap.objs.size]) ht.typeIs PyProof.Rows.slot_tuple_getitem.lookup (getItem_backA ht (by omega) (Heap.IsSliceOf.new ..) ?_) (by with_unfolding_all rfl)
  exact ⟨.ref _, _, I3.laid (t' := s2.toks) (o := .tup xs.reverse) (fun b ob q => Heap.get?_push_of_some _ q) (Nat.le_refl _) ⟨by rw [List.length_reverse]; exact hz, its.reverse, r.reverse, TupX.new _ _⟩, rfl, k _ (I3.hok.fresh (Nat.le_refl _))⟩
end
/-! ### any tuple, twice -/
theorem meets_dbl (l : Addr) (o : Obj) (vs : List Value) (n : Nat) (t : Tok) (hc : o.cls = .type "tuple") (hd : o.data = .seq vs.toArray n) (hk : vs.length ≤ 10000) :
    Meets (Builtin.«tuple.__mul__» ⟨[.ref l, .int 2 t], []⟩) (fun _ R s => s.heap.get? l = some o ∧
      (vs = [] → R (.ok (.ret (.ref l))) s) ∧ (vs ≠ [] → R (.ok (.ret (.ref s.heap.objs.size))) { s with heap := s.heap.push { cls := .type "tuple", data := .seq (vs ++ vs).toArray } })) :=
  .of_wp fun prog w A R s h => by
    cases s with
    | mk hp gs dr tk os =>
    obtain ⟨hl, g1, g2⟩ := h
    have ty : Shared.TypeIs ⟨hp, gs, dr, tk, os⟩ (.ref l) "tuple" := ⟨o, hl, hc⟩
    wp_walk using wpAny_seqItems hl hd, wpAny_typeOf ty
    have c1 : ¬ (decide ((2 : Int) < -2 ^ 63) || decide ((2 : Int) ≥ 2 ^ 63)) = true := by decide
    try rw [if_neg c1]
    wp_walk using wpAny_seqItems hl hd, wpAny_typeOf ty
    by_cases v0 : vs = []
    · have c2 : (vs.toArray.isEmpty || (2 : Int) == 1) = true := by subst v0; rfl
      rw [if_pos c2]
      wp_walk using wpAny_typeOf ty
      exact ⟨_, rfl, g1 v0⟩
    · have ie : vs.toArray.isEmpty = false := by cases vs with
        | nil => exact absurd rfl v0
        | cons a b => rfl
      have c2 : ¬ (vs.toArray.isEmpty || (2 : Int) == 1) = true := by rw [ie]; decide
      rw [if_neg c2]
      have sz : vs.toArray.size = vs.length := List.size_toArray ..
      have c3 : ¬ (decide ((2 : Int) ≤ 0) || vs.toArray.isEmpty) = true := by rw [ie]; decide
      have c4 : ¬ ((vs.toArray.size : Int) * (2 : Int) > (2 ^ 63 - 1) / 8) := by rw [sz]; omega
      have c5 : ¬ Builtin.Tuple.tupleTooMany ((vs.toArray.size : Int) * (2 : Int)) = true := by
        unfold Builtin.Tuple.tupleTooMany
        rw [sz, decide_eq_false (by rw [sizeLine_eq]; omega)]; exact Bool.false_ne_true
      rw [if_neg c3, if_neg c4, if_neg c5]
      have e : List.foldl (fun x1 x2 => x1 ++ x2) (#[] : Array Value) (List.replicate (2 : Int).toNat vs.toArray) = (vs ++ vs).toArray := by
        show (#[] ++ vs.toArray) ++ vs.toArray = _
        apply Array.ext'; simp
      rw [e]
      refine wpAny_bind (m := Builtin.Tuple.tupleExact _) (wpAny_newObj_type (wpAny_pure ⟨_, rfl, g2 v0⟩) ?_)
      show (vs ++ vs).toArray.size ≤ sizeLine
      rw [List.size_toArray, List.length_append, sizeLine_eq]; omega
section
variable {X : Cx}
theorem op_dbl : OpR X (binaryOp .Mult) (fun x y H Q => ∃ a xs, x = .ref a ∧ y = .int 2 ∧ H a = some (.tup xs) ∧ xs.length ≤ 10000 ∧ ∀ r H', Same H H' → H' r = some (.tup (xs ++ xs)) → Q (.ref r) H') := by
  intro pins s σ H x y vx vy Q I rx ry h
  obtain ⟨a, xs, rfl, rfl, ha, hk, q⟩ := h
  cases rx
  obtain ⟨t, rfl⟩ := ry
  obtain ⟨_, its, r, ⟨⟨c, dd, d, sl⟩, eo, c1, n1, d1, nd⟩⟩ := (show ObjOk X.prog X.w H s.heap a (.tup xs) from I.hok a _ ha)
  simp only at c1 d1 nd
  subst c1 d1 nd
  have hl := r.length
  refine wpAny_binaryOp_repeat_ref (T := "tuple") (U := "int") (by decide) ⟨_, eo, rfl⟩ (fun s' => typeIs_int s' 2 t) noFill_tmul F.fills_int_mul F.slot_int_rmul repeat_tup F.slot_int_index.lookup
    (call_meets F.slot_int_rmul (typeIs_int s 2 t) F.entry_int_rmul (F.args_int_rmul_2 _ _) (declines 2 t a none sl _ n1)
      ⟨eo, rfl, ⟨_, eo, rfl⟩, call_meets F.slot_tuple_mul ⟨_, eo, rfl⟩ F.entry_tuple_mul (F.args_tuple_mul_2 _ _) (meets_dbl a _ its n1 t rfl rfl (by omega)) ⟨eo, fun e => ?_, fun e => ?_⟩⟩)
  · have x0 : xs = [] := List.length_eq_zero_iff.mp (by rw [hl, e]; rfl)
    exact ⟨.ref a, H, I, rfl, q a H (Same.refl H) (by rw [ha, x0]; rfl)⟩
  · have hz : (xs ++ xs).length ≤ sizeLine := by rw [List.length_append, sizeLine_eq]; omega
    exact ⟨.ref s.heap.objs.size, _, I.laid (t' := s.toks) (o := .tup (xs ++ xs)) (fun b ob z => Heap.get?_push_of_some _ z) (Nat.le_refl _) ⟨hz, _, r.append r, TupX.new _ _⟩, rfl, q _ _ (same_new (I.hok.fresh (Nat.le_refl _)) _) upd_same⟩
end
end L2
end
section
set_option maxHeartbeats 4000001
/-! one ball more, or one back: what it does to the counts -/
namespace Bn
open PySem L2 Own
/-- a ball at one fork: the turns, and where it is -/
def runStep (back : Bool) (st : List Int × Nat) (k : Nat) (f : Nat × Nat) : List Int × Nat :=
  if st.2 = f.1 ∨ st.2 = f.2 then (st.1.set k (1 - st.1.getD k 0), if (if back then 1 - st.1.getD k 0 else st.1.getD k 0) = 0 then f.1 else f.2) else st
def runTo (back : Bool) (fs : List (Nat × Nat)) (ts : List Int) (lane : Nat) : Nat → List Int × Nat
  | 0 => (ts, lane)
  | i + 1 => runStep back (runTo back fs ts lane i) i (fs.getD i (0, 0))
def addAt (xs : List Int) (i : Nat) (d : Int) : List Int := xs.set i (xs.getD i 0 + d)
theorem addAt_len (xs : List Int) (i : Nat) (d : Int) : (addAt xs i d).length = xs.length := by simp [addAt]
theorem addAt_getD {xs : List Int} {i p : Nat} {d : Int} (h : p < xs.length) : (addAt xs i d).getD p 0 = xs.getD p 0 + if i = p then d else 0 := by
  unfold addAt
  rw [set_getD h]
  by_cases e : i = p
  · subst e; rw [if_pos rfl, if_pos rfl]
  · rw [if_neg e, if_neg e, Int.add_zero]
theorem ext_getD {xs ys : List Int} (hl : xs.length = ys.length) (h : ∀ p, p < xs.length → xs.getD p 0 = ys.getD p 0) : xs = ys := by
  refine List.ext_getElem hl fun p h1 h2 => ?_
  have := h p h1
  rwa [List.getD_eq_getElem?_getD, List.getD_eq_getElem?_getD, List.getElem?_eq_getElem h1, List.getElem?_eq_getElem h2] at this
theorem step_getD {L T : List Int} {f : Nat × Nat} {p : Nat} (hp : p < L.length) : (stepF (L, T) f).1.getD p 0 = if f.2 = p then (L.getD f.1 0 + L.getD f.2 0) / 2 else if f.1 = p then (L.getD f.1 0 + L.getD f.2 0 + 1) / 2 else L.getD p 0 := by
  unfold stepF
  simp only
  rw [set_getD (by rw [List.length_set]; exact hp), set_getD hp]
/-- one fork: a ball more at here is a ball more at the place where the ball is behind it -/
theorem one_fork (back : Bool) (L T : List Int) (f : Nat × Nat) (here k : Nat) (ts : List Int) (h1 : f.1 < L.length) (h2 : f.2 < L.length) (ne : f.1 ≠ f.2) (hh : here < L.length) (ht : ts.getD k 0 = (L.getD f.1 0 + L.getD f.2 0) % 2) :
    let d : Int := if back then -1 else 1
    let r := runStep back (ts, here) k f
    (stepF (addAt L here d, T) f).1 = addAt (stepF (L, T) f).1 r.2 d ∧ r.2 < L.length ∧
      ((here = f.1 ∨ here = f.2) → ((addAt L here d).getD f.1 0 + (addAt L here d).getD f.2 0) % 2 = 1 - ts.getD k 0) ∧ (¬ (here = f.1 ∨ here = f.2) → ((addAt L here d).getD f.1 0 + (addAt L here d).getD f.2 0) % 2 = ts.getD k 0) := by
  intro d r
  have hd : d = if back then -1 else 1 := rfl
  have a1 := addAt_getD (xs := L) (i := here) (d := d) h1
  have a2 := addAt_getD (xs := L) (i := here) (d := d) h2
  generalize hc : L.getD f.1 0 + L.getD f.2 0 = c at *
  have hr : r = runStep back (ts, here) k f := rfl
  unfold runStep at hr
  simp only at hr
  by_cases on : here = f.1 ∨ here = f.2
  · rw [if_pos on] at hr
    have c' : (addAt L here d).getD f.1 0 + (addAt L here d).getD f.2 0 = c + d := by
      rw [a1, a2, ← hc]
      rcases on with e | e
      · subst e; rw [if_pos rfl, if_neg ne]; omega
      · subst e; rw [if_neg (Ne.symm ne), if_pos rfl]; omega
    have hr2 : r.2 = if (if back then 1 - c % 2 else c % 2) = 0 then f.1 else f.2 := by rw [hr, ht]
    refine ⟨ext_getD (by rw [stepF_len, addAt_len, addAt_len, stepF_len]) fun p hp => ?_, ?_, fun _ => ?_, fun z => absurd on z⟩
    · rw [stepF_len, addAt_len] at hp
      have hp' : p < L.length := hp
      rw [step_getD (by rw [addAt_len]; exact hp'), c', addAt_getD (xs := (stepF (L, T) f).1) (by rw [stepF_len]; exact hp'), step_getD hp', hc, addAt_getD (xs := L) hp', hr2]
      cases back
      · simp only [Bool.false_eq_true, if_false] at hd ⊢
        rw [hd]
        by_cases p2 : f.2 = p
        · subst p2
          simp only [if_true]
          by_cases z : c % 2 = 0
          · rw [if_pos z, if_neg ne]; omega
          · rw [if_neg z, if_pos rfl]; omega
        · rw [if_neg p2, if_neg p2]
          by_cases p1 : f.1 = p
          · subst p1
            simp only [if_true]
            by_cases z : c % 2 = 0
            · rw [if_pos z, if_pos rfl]; omega
            · rw [if_neg z, if_neg (Ne.symm ne)]; omega
          · rw [if_neg p1, if_neg p1]
            have q1 : ¬ here = p := by rcases on with e | e <;> omega
            have q2 : ¬ (if c % 2 = 0 then f.1 else f.2) = p := by split <;> assumption
            rw [if_neg q1, if_neg q2]
      · simp only [if_true] at hd ⊢
        rw [hd]
        by_cases p2 : f.2 = p
        · subst p2
          simp only [if_true]
          by_cases z : 1 - c % 2 = 0
          · rw [if_pos z, if_neg ne]; omega
          · rw [if_neg z, if_pos rfl]; omega
        · rw [if_neg p2, if_neg p2]
          by_cases p1 : f.1 = p
          · subst p1
            simp only [if_true]
            by_cases z : 1 - c % 2 = 0
            · rw [if_pos z, if_pos rfl]; omega
            · rw [if_neg z, if_neg (Ne.symm ne)]; omega
          · rw [if_neg p1, if_neg p1]
            have q1 : ¬ here = p := by rcases on with e | e <;> omega
            have q2 : ¬ (if 1 - c % 2 = 0 then f.1 else f.2) = p := by split <;> assumption
            rw [if_neg q1, if_neg q2]
    · rw [hr2]
      by_cases z : (if back = true then 1 - c % 2 else c % 2) = 0
      · rw [if_pos z]; exact h1
      · rw [if_neg z]; exact h2
    · rw [c', ht]
      cases back <;> simp at hd <;> omega
  · rw [if_neg on] at hr
    have n1 : ¬ here = f.1 := fun z => on (.inl z)
    have n2 : ¬ here = f.2 := fun z => on (.inr z)
    rw [if_neg n1] at a1
    rw [if_neg n2] at a2
    have c' : (addAt L here d).getD f.1 0 + (addAt L here d).getD f.2 0 = c := by rw [a1, a2, ← hc]; omega
    have hr2 : r.2 = here := by rw [hr]
    refine ⟨ext_getD (by rw [stepF_len, addAt_len, addAt_len, stepF_len]) fun p hp => ?_, by rw [hr2]; exact hh, fun z => absurd z on, fun _ => by rw [c', ht]⟩
    rw [stepF_len, addAt_len] at hp
    have hp' : p < L.length := hp
    rw [step_getD (by rw [addAt_len]; exact hp'), c', addAt_getD (xs := (stepF (L, T) f).1) (by rw [stepF_len]; exact hp'), step_getD hp', hc, addAt_getD (xs := L) hp', hr2]
    by_cases p2 : f.2 = p
    · rw [if_pos p2, if_pos p2, if_neg (by omega)]; omega
    · rw [if_neg p2, if_neg p2]
      by_cases p1 : f.1 = p
      · rw [if_pos p1, if_pos p1, if_neg (by omega)]; omega
      · rw [if_neg p1, if_neg p1]
/-- all forks -/
structure Ran (back : Bool) (fs : List (Nat × Nat)) (cs ts : List Int) (lane i : Nat) : Prop where
  flows : (flow (fs.take i) (addAt cs lane (if back then -1 else 1))).1 = addAt (flow (fs.take i) cs).1 (runTo back fs ts lane i).2 (if back then -1 else 1)
  turns : ∀ k, k < i → (flow (fs.take i) (addAt cs lane (if back then -1 else 1))).2.getD k 0 = (runTo back fs ts lane i).1.getD k 0
  rest : ∀ k, i ≤ k → (runTo back fs ts lane i).1.getD k 0 = ts.getD k 0
  len : (runTo back fs ts lane i).1.length = ts.length
  here : (runTo back fs ts lane i).2 < cs.length
  bits : ∀ t ∈ (runTo back fs ts lane i).1, t = 0 ∨ t = 1
theorem flow_prefix (cs : List Int) (T : List Int) : ∀ (gs : List (Nat × Nat)) (L : List Int) (k : Nat), k < T.length → (flowFrom (L, T) gs).2.getD k 0 = T.getD k 0
  | [], _, _, _ => rfl
  | g :: gs, L, k, h => by
    have := flow_prefix cs (stepF (L, T) g).2 gs (stepF (L, T) g).1 k (by simp [stepF]; omega)
    rw [show flowFrom (L, T) (g :: gs) = flowFrom ((stepF (L, T) g).1, (stepF (L, T) g).2) gs from rfl, this]
    show (T ++ [_]).getD k 0 = T.getD k 0
    rw [List.getD_eq_getElem?_getD, List.getElem?_append_left h, ← List.getD_eq_getElem?_getD]
theorem turn_at {fs : List (Nat × Nat)} {i : Nat} {f : Nat × Nat} (h : fs[i]? = some f) (cs : List Int) : (flow fs cs).2.getD i 0 = ((flow (fs.take i) cs).1.getD f.1 0 + (flow (fs.take i) cs).1.getD f.2 0) % 2 := by
  have sp : fs = fs.take (i + 1) ++ fs.drop (i + 1) := (List.take_append_drop _ _).symm
  have e : flow fs cs = flowFrom (flow (fs.take (i + 1)) cs) (fs.drop (i + 1)) := by
    conv => lhs; rw [sp]
    unfold flow flowFrom; rw [List.foldl_append]
  have hi : i < fs.length := (List.getElem?_eq_some_iff.mp h).1
  have tl : (flow (fs.take i) cs).2.length = i := by rw [flow_turns, List.length_take]; omega
  rw [e, flow_take h]
  have := flow_prefix cs (stepF (flow (fs.take i) cs) f).2 (fs.drop (i + 1)) (stepF (flow (fs.take i) cs) f).1 i (by simp [stepF, tl])
  rw [this]
  unfold stepF
  simp only
  rw [List.getD_eq_getElem?_getD, List.getElem?_append_right (by omega), tl]
  simp
theorem set_bits {ts : List Int} {k : Nat} (h : ∀ t ∈ ts, t = 0 ∨ t = 1) : ∀ t ∈ ts.set k (1 - ts.getD k 0), t = 0 ∨ t = 1 := fun t ht => by
  rcases List.mem_or_eq_of_mem_set ht with z | z
  · exact h t z
  · by_cases hk : k < ts.length
    · have := h _ (L2.getD_mem hk); omega
    · rw [List.set_eq_of_length_le (by omega)] at ht; exact h t ht
theorem ran {back : Bool} {fs : List (Nat × Nat)} {cs : List Int} {lane : Nat} (ok : ∀ f ∈ fs, f.1 < cs.length ∧ f.2 < cs.length ∧ f.1 ≠ f.2) (hl : lane < cs.length) (hb : ∀ t ∈ (flow fs cs).2, t = 0 ∨ t = 1) : ∀ i, i ≤ fs.length → Ran back fs cs (flow fs cs).2 lane i
  | 0, _ => ⟨rfl, fun k hk => absurd hk (Nat.not_lt_zero _), fun _ _ => rfl, rfl, hl, hb⟩
  | i + 1, hi => by
    have ih := ran (back := back) ok hl hb i (by omega)
    have eg : fs[i]? = some fs[i] := List.getElem?_eq_getElem (by omega)
    have gd : fs.getD i (0, 0) = fs[i] := by rw [List.getD_eq_getElem?_getD, eg]; rfl
    have okf := ok _ (List.getElem_mem (show i < fs.length by omega))
    have e1 := flow_take eg (addAt cs lane (if back then -1 else 1))
    have e2 := flow_take eg cs
    have tt := turn_at eg cs
    generalize fs[i] = f at *
    have l1 : (flow (fs.take i) cs).1.length = cs.length := flow_len _ _
    have tl : (flow (fs.take i) (addAt cs lane (if back then -1 else 1))).2.length = i := by rw [flow_turns, List.length_take]; omega
    have tf : (flow fs cs).2.length = fs.length := flow_turns _ _
    have of := one_fork back (flow (fs.take i) cs).1 (flow (fs.take i) (addAt cs lane (if back then -1 else 1))).2 f (runTo back fs (flow fs cs).2 lane i).2 i (runTo back fs (flow fs cs).2 lane i).1 (by omega) (by omega) okf.2.2 (by rw [l1]; exact ih.here) (by rw [ih.rest i (Nat.le_refl _)]; exact tt)
    obtain ⟨o1, o2, o3, o4⟩ := of
    have rs : runTo back fs (flow fs cs).2 lane (i + 1) = runStep back ((runTo back fs (flow fs cs).2 lane i).1, (runTo back fs (flow fs cs).2 lane i).2) i f := by show runStep _ _ _ _ = _; rw [gd]
    have st : flow (fs.take i) (addAt cs lane (if back then -1 else 1)) = (addAt (flow (fs.take i) cs).1 (runTo back fs (flow fs cs).2 lane i).2 (if back then -1 else 1), (flow (fs.take i) (addAt cs lane (if back then -1 else 1))).2) := by rw [← ih.flows]
    generalize hr : runTo back fs (flow fs cs).2 lane i = r at *
    generalize hF : (flow (fs.take i) (addAt cs lane (if back then -1 else 1))).2 = T at *
    have tn : (runStep back (r.1, r.2) i f).1.getD i 0 = (stepF (addAt (flow (fs.take i) cs).1 r.2 (if back then -1 else 1), T) f).2.getD i 0 := by
      unfold stepF
      simp only
      rw [List.getD_eq_getElem?_getD (l := T ++ _), List.getElem?_append_right (by omega), tl]
      simp only [Nat.sub_self, List.getElem?_cons_zero, Option.getD_some]
      unfold runStep
      by_cases on : r.2 = f.1 ∨ r.2 = f.2
      · rw [if_pos on, o3 on]
        simp only
        rw [set_getD (by have z := ih.len; rw [hr, tf] at z; omega), if_pos rfl]
      · rw [if_neg on, o4 on]
    have keep : ∀ k, k ≠ i → (runStep back (r.1, r.2) i f).1.getD k 0 = r.1.getD k 0 := fun k hk => by
      unfold runStep
      split
      · simp only
        rw [List.getD_eq_getElem?_getD, List.getElem?_set_ne (Ne.symm hk), ← List.getD_eq_getElem?_getD]
      · rfl
    refine ⟨?_, fun k hk => ?_, fun k hk => ?_, ?_, ?_, ?_⟩
    · rw [e1, st, o1, rs, e2, show flow (fs.take i) cs = ((flow (fs.take i) cs).1, (flow (fs.take i) cs).2) from rfl]; rfl
    · rw [e1, st, rs]
      by_cases e : k = i
      · subst e; exact tn.symm
      · have z := ih.turns k (by omega)
        rw [hr, hF] at z
        rw [keep k e, ← z]
        unfold stepF
        simp only
        rw [List.getD_eq_getElem?_getD, List.getElem?_append_left (by omega), ← List.getD_eq_getElem?_getD]
    · have z := ih.rest k (by omega)
      rw [hr] at z
      rw [rs, keep k (by omega), z]
    · rw [rs]
      unfold runStep
      split
      · simp only; rw [List.length_set, ← ih.len, hr]
      · rw [← ih.len, hr]
    · rw [rs, ← l1]; exact o2
    · rw [rs]
      unfold runStep
      split
      · exact set_bits (by have z := ih.bits; rw [hr] at z; exact z)
      · have z := ih.bits; rw [hr] at z; exact z
theorem runTo_bits {back : Bool} {fs : List (Nat × Nat)} {ts : List Int} {lane : Nat} (h : ∀ t ∈ ts, t = 0 ∨ t = 1) : ∀ i, ∀ t ∈ (runTo back fs ts lane i).1, t = 0 ∨ t = 1
  | 0 => h
  | i + 1 => by
    have ih := runTo_bits (back := back) (fs := fs) (lane := lane) h i
    show ∀ t ∈ (runStep back (runTo back fs ts lane i) i (fs.getD i (0, 0))).1, t = 0 ∨ t = 1
    unfold runStep
    split
    · exact set_bits ih
    · exact ih
theorem runTo_len {back : Bool} {fs : List (Nat × Nat)} {ts : List Int} {lane : Nat} : ∀ i, (runTo back fs ts lane i).1.length = ts.length
  | 0 => rfl
  | i + 1 => by
    have ih := runTo_len (back := back) (fs := fs) (ts := ts) (lane := lane) i
    show (runStep back (runTo back fs ts lane i) i (fs.getD i (0, 0))).1.length = _
    unfold runStep
    split
    · simp only; rw [List.length_set]; exact ih
    · exact ih
theorem runTo_here {back : Bool} {fs : List (Nat × Nat)} {ts : List Int} {lane n : Nat} (ok : ∀ f ∈ fs, f.1 < n ∧ f.2 < n ∧ f.1 ≠ f.2) (hl : lane < n) : ∀ i, i ≤ fs.length → (runTo back fs ts lane i).2 < n
  | 0, _ => hl
  | i + 1, hi => by
    have ih := runTo_here (back := back) (ts := ts) ok hl i (by omega)
    have okf := ok _ (List.getElem_mem (show i < fs.length by omega))
    have gd : fs.getD i (0, 0) = fs[i] := by rw [List.getD_eq_getElem?_getD, List.getElem?_eq_getElem (show i < fs.length by omega)]; rfl
    show (runStep back (runTo back fs ts lane i) i (fs.getD i (0, 0))).2 < n
    rw [gd]
    generalize fs[i] = f at *
    unfold runStep
    split
    · simp only
      by_cases z : (if back = true then 1 - (runTo back fs ts lane i).1.getD i 0 else (runTo back fs ts lane i).1.getD i 0) = 0
      · rw [if_pos z]; exact okf.1
      · rw [if_neg z]; exact okf.2.1
    · exact ih
theorem idx_cast (k : Nat) : ∀ es : List Nat, (es.map fun (e : Nat) => (e : Int)).idxOf (k : Int) = es.idxOf k
  | [] => rfl
  | e :: es => by
    rw [List.map_cons, List.idxOf_cons, List.idxOf_cons, idx_cast k es]
    have : ((e : Int) == (k : Int)) = (e == k) := by
      rw [Bool.eq_iff_iff, beq_iff_eq]; rw [beq_iff_eq]; omega
    rw [this]
theorem nums_map (es : List Nat) : nums es = (es.map fun (e : Nat) => (e : Int)).map V.int := by unfold nums; rw [List.map_map]; rfl
/-! ### what the balls' defs promise -/
def spEnd : Sp := fun vs H Q _ => ∃ r fr er ps N, ∃ lane : Nat, vs = [.ref r, .int lane] ∧ Nt.Ok N ∧ NetAt H r fr er ps N ∧ lane < N.lanes ∧ Q (.int (N.ends.idxOf lane : Nat)) H
def RunQ (back : Bool) (vs : List V) (H : Hp) (Q : VK) : Prop := ∃ r fr er ps N tr ts, ∃ lane : Nat, vs = [.ref r, .ref tr, .int lane] ∧ Nt.Ok N ∧ NetAt H r fr er ps N ∧ H tr = some (.tup (List.map V.int ts)) ∧ ts.length = N.forks.length ∧ (∀ t ∈ ts, t = 0 ∨ t = 1) ∧ lane < N.lanes ∧
  ∀ p tr' H', Same H H' → H' p = some (.tup [.ref tr', .int (N.ends.idxOf (runTo back N.forks ts lane N.forks.length).2 : Nat)]) → H' tr' = some (.tup ((runTo back N.forks ts lane N.forks.length).1.map V.int)) → Q (.ref p) H'
def spPass (back : Bool) : Sp := fun vs H Q _ => RunQ back vs H Q
def spRun : Sp := fun vs H Q _ => ∃ (us : List V) (back : Bool), vs = us ++ [.bl back] ∧ RunQ back us H Q
end Bn
end
section
set_option maxHeartbeats 4000001
/-! counts of the other sign, other names of the lanes, the last fork again -/
namespace Bn
open PySem L2 Own
def negs (cs : List Int) : List Int := cs.map fun c => -c
theorem negs_len (cs : List Int) : (negs cs).length = cs.length := by simp [negs]
theorem negs_negs (cs : List Int) : negs (negs cs) = cs := by
  unfold negs
  rw [List.map_map]
  exact (List.map_congr_left fun a _ => Int.neg_neg a).trans (List.map_id _)
theorem negs_getD (cs : List Int) (i : Nat) : (negs cs).getD i 0 = -(cs.getD i 0) := by
  simp only [negs, List.getD_eq_getElem?_getD, List.getElem?_map]
  cases cs[i]? <;> simp
def swp (f : Nat × Nat) : Nat × Nat := (f.2, f.1)
theorem step_swp {xs ts : List Int} {f : Nat × Nat} (ne : f.1 ≠ f.2) : stepF (negs xs, ts) (swp f) = (negs (stepF (xs, ts) f).1, (stepF (xs, ts) f).2) := by
  unfold stepF swp
  simp only [negs_getD]
  refine Prod.ext ?_ ?_
  · show ((negs xs).set f.2 _).set f.1 _ = negs ((xs.set f.1 _).set f.2 _)
    unfold negs
    rw [List.map_set, List.map_set, List.set_comm _ _ ne.symm]
    congr 1
    · congr 1; omega
    · omega
  · show ts ++ [_] = ts ++ [_]
    congr 2; omega
theorem flow_swp : ∀ (fs : List (Nat × Nat)) (xs ts : List Int), (∀ f ∈ fs, f.1 ≠ f.2) → flowFrom (negs xs, ts) (fs.map swp) = (negs (flowFrom (xs, ts) fs).1, (flowFrom (xs, ts) fs).2)
  | [], _, _, _ => rfl
  | f :: fs, xs, ts, h => by
    have := flow_swp fs (stepF (xs, ts) f).1 (stepF (xs, ts) f).2 fun g hg => h g (List.mem_cons_of_mem _ hg)
    show flowFrom (stepF (negs xs, ts) (swp f)) (fs.map swp) = _
    rw [step_swp (h f List.mem_cons_self)]
    exact this
def Nt.swp (N : Nt) : Nt := ⟨N.lanes, N.forks.map Bn.swp, N.ends⟩
theorem swp_ok {N : Nt} (ok : N.Ok) : N.swp.Ok := ⟨ok.l1, ok.l16, by show (N.forks.map _).length ≤ 128; rw [List.length_map]; exact ok.fm, fun f hf => by
  obtain ⟨g, hg, rfl⟩ := List.mem_map.mp hf
  have := ok.fk g hg
  exact ⟨this.2.1, this.1, this.2.2.symm⟩, ok.en⟩
theorem swp_flow {N : Nt} (ok : N.Ok) (cs : List Int) : flow N.swp.forks (negs cs) = (negs (flow N.forks cs).1, (flow N.forks cs).2) := flow_swp N.forks cs [] fun f hf => (ok.fk f hf).2.2
theorem swp_ends {N : Nt} (ok : N.Ok) (cs : List Int) : negs (endsM N.swp (negs cs)) = endsM N cs := by
  unfold endsM
  rw [swp_flow ok]
  unfold negs
  rw [List.map_map]
  refine List.map_congr_left fun e _ => ?_
  show -((negs (flow N.forks cs).1).getD e 0) = _
  rw [negs_getD, Int.neg_neg]
theorem swp_turns {N : Nt} (ok : N.Ok) (cs : List Int) : turnsM N.swp (negs cs) = turnsM N cs := by unfold turnsM; rw [swp_flow ok]
/-! ### other names -/
def nm (ns : List Nat) (i : Nat) : Nat := ns.getD i 0
theorem nm_get {ns : List Nat} {i : Nat} (h : i < ns.length) : ns[i] = nm ns i := by
  unfold nm; rw [List.getD_eq_getElem?_getD, List.getElem?_eq_getElem h]; rfl
section
variable {ns : List Nat} {n : Nat} (pm : ns.Perm (List.range n))
include pm
theorem nm_len : ns.length = n := by rw [pm.length_eq, List.length_range]
theorem nm_lt {i : Nat} (h : i < n) : nm ns i < n := by
  have l := nm_len pm
  rw [← nm_get (by omega)]
  exact List.mem_range.mp (pm.mem_iff.mp (List.getElem_mem _))
theorem nm_inj {i j : Nat} (hi : i < n) (hj : j < n) (e : nm ns i = nm ns j) : i = j := by
  have l := nm_len pm
  have nd : ns.Nodup := pm.nodup_iff.mpr List.nodup_range
  rw [← nm_get (by omega), ← nm_get (by omega)] at e
  rcases Nat.lt_trichotomy i j with z | z | z
  · exact absurd e (List.pairwise_iff_getElem.mp nd i j (by omega) (by omega) z)
  · exact z
  · exact absurd e.symm (List.pairwise_iff_getElem.mp nd j i (by omega) (by omega) z)
end
def Ren (ns : List Nat) (n : Nat) (xs ys : List Int) : Prop := xs.length = n ∧ ys.length = n ∧ ∀ i, i < n → ys.getD (nm ns i) 0 = xs.getD i 0
def ren (ns : List Nat) (f : Nat × Nat) : Nat × Nat := (nm ns f.1, nm ns f.2)
theorem step_ren {ns : List Nat} {n : Nat} (pm : ns.Perm (List.range n)) {xs ys ts : List Int} (r : Ren ns n xs ys) {f : Nat × Nat} (h1 : f.1 < n) (h2 : f.2 < n) :
    Ren ns n (stepF (xs, ts) f).1 (stepF (ys, ts) (ren ns f)).1 ∧ (stepF (ys, ts) (ren ns f)).2 = (stepF (xs, ts) f).2 := by
  obtain ⟨l1, l2, r⟩ := r
  unfold stepF ren
  simp only [r _ h1, r _ h2]
  refine ⟨⟨by simp [l1], by simp [l2], fun i hi => ?_⟩, trivial⟩
  have hn := nm_lt pm hi
  rw [set_getD (by simp [l2]; exact hn), set_getD (by rw [l2]; exact hn), set_getD (by simp [l1]; exact hi), set_getD (by rw [l1]; exact hi), r i hi]
  by_cases e2 : f.2 = i
  · rw [if_pos e2, if_pos (by rw [e2])]
  · rw [if_neg e2, if_neg (fun e => e2 (nm_inj pm h2 hi e))]
    by_cases e1 : f.1 = i
    · rw [if_pos e1, if_pos (by rw [e1])]
    · rw [if_neg e1, if_neg (fun e => e1 (nm_inj pm h1 hi e))]
theorem flow_ren {ns : List Nat} {n : Nat} (pm : ns.Perm (List.range n)) : ∀ (fs : List (Nat × Nat)) (xs ys ts : List Int), Ren ns n xs ys → (∀ f ∈ fs, f.1 < n ∧ f.2 < n) →
    Ren ns n (flowFrom (xs, ts) fs).1 (flowFrom (ys, ts) (fs.map (ren ns))).1 ∧ (flowFrom (ys, ts) (fs.map (ren ns))).2 = (flowFrom (xs, ts) fs).2
  | [], _, _, _, r, _ => ⟨r, rfl⟩
  | f :: fs, xs, ys, ts, r, h => by
    have hf := h f List.mem_cons_self
    have st := step_ren pm (ts := ts) r hf.1 hf.2
    have := flow_ren pm fs (stepF (xs, ts) f).1 (stepF (ys, ts) (ren ns f)).1 (stepF (xs, ts) f).2 st.1 fun g hg => h g (List.mem_cons_of_mem _ hg)
    rw [show ((stepF (ys, ts) (ren ns f)).1, (stepF (xs, ts) f).2) = stepF (ys, ts) (ren ns f) from Prod.ext rfl st.2.symm] at this
    exact this
def Nt.ren (N : Nt) (ns : List Nat) : Nt := ⟨N.lanes, N.forks.map (Bn.ren ns), N.ends.map (nm ns)⟩
theorem map_nm {ns : List Nat} {n : Nat} (l : ns.length = n) : (List.range n).map (nm ns) = ns := by
  refine List.ext_getElem (by simp [l]) fun i h1 h2 => ?_
  rw [List.getElem_map, List.getElem_range, nm_get h2]
theorem ren_ok {N : Nt} (ok : N.Ok) {ns : List Nat} (pm : ns.Perm (List.range N.lanes)) : (N.ren ns).Ok := ⟨ok.l1, ok.l16, by show (N.forks.map _).length ≤ 128; rw [List.length_map]; exact ok.fm, fun f hf => by
  obtain ⟨g, hg, rfl⟩ := List.mem_map.mp hf
  have := ok.fk g hg
  exact ⟨nm_lt pm this.1, nm_lt pm this.2.1, fun e => this.2.2 (nm_inj pm this.1 this.2.1 e)⟩, by
  have := ok.en.map (nm ns)
  rw [map_nm (nm_len pm)] at this
  exact this.trans pm⟩
theorem ren_flow {N : Nt} (ok : N.Ok) {ns : List Nat} (pm : ns.Perm (List.range N.lanes)) {xs ys : List Int} (r : Ren ns N.lanes xs ys) : Ren ns N.lanes (flow N.forks xs).1 (flow (N.ren ns).forks ys).1 ∧ (flow (N.ren ns).forks ys).2 = (flow N.forks xs).2 :=
  flow_ren pm N.forks xs ys [] r fun f hf => ⟨(ok.fk f hf).1, (ok.fk f hf).2.1⟩
theorem ren_ends {N : Nt} (ok : N.Ok) {ns : List Nat} (pm : ns.Perm (List.range N.lanes)) {xs ys : List Int} (r : Ren ns N.lanes xs ys) : endsM (N.ren ns) ys = endsM N xs := by
  have h := (ren_flow ok pm r).1.2.2
  unfold endsM
  show (N.ends.map (nm ns)).map _ = _
  rw [List.map_map]
  exact List.map_congr_left fun e he => h e (ends_lt ok he)
theorem ren_turns {N : Nt} (ok : N.Ok) {ns : List Nat} (pm : ns.Perm (List.range N.lanes)) {xs ys : List Int} (r : Ren ns N.lanes xs ys) : turnsM (N.ren ns) ys = turnsM N xs := (ren_flow ok pm r).2
/-! ### a fork twice -/
theorem step_again {xs ts : List Int} {f : Nat × Nat} (h1 : f.1 < xs.length) (h2 : f.2 < xs.length) (ne : f.1 ≠ f.2) : (stepF (stepF (xs, ts) f) f).1 = (stepF (xs, ts) f).1 := by
  have g1 : (stepF (xs, ts) f).1.getD f.1 0 = (xs.getD f.1 0 + xs.getD f.2 0 + 1) / 2 := by
    show ((xs.set f.1 _).set f.2 _).getD f.1 0 = _
    rw [set_getD (by simp; exact h1), if_neg ne.symm, set_getD h1, if_pos rfl]
  have g2 : (stepF (xs, ts) f).1.getD f.2 0 = (xs.getD f.1 0 + xs.getD f.2 0) / 2 := by
    show ((xs.set f.1 _).set f.2 _).getD f.2 0 = _
    rw [set_getD (by simp; exact h2), if_pos rfl]
  show (((stepF (xs, ts) f).1.set f.1 _).set f.2 _) = _
  rw [g1, g2]
  have e : (xs.getD f.1 0 + xs.getD f.2 0 + 1) / 2 + (xs.getD f.1 0 + xs.getD f.2 0) / 2 = xs.getD f.1 0 + xs.getD f.2 0 := halves _
  rw [e]
  show ((((xs.set f.1 _).set f.2 _).set f.1 _).set f.2 _) = (xs.set f.1 _).set f.2 _
  rw [List.set_comm _ _ ne.symm, List.set_set, List.set_set]
def Nt.again (N : Nt) (f : Nat × Nat) : Nt := ⟨N.lanes, N.forks ++ [f], N.ends⟩
theorem again_ok {N : Nt} (ok : N.Ok) {f : Nat × Nat} (hf : f ∈ N.forks) (l : N.forks.length ≤ 127) : (N.again f).Ok := ⟨ok.l1, ok.l16, by show (N.forks ++ [f]).length ≤ 128; rw [List.length_append]; show _ + 1 ≤ _; omega, fun g hg => by
  rcases List.mem_append.mp hg with z | z
  · exact ok.fk g z
  · rw [List.mem_singleton.mp z]; exact ok.fk f hf, ok.en⟩
theorem again_ends {N : Nt} (ok : N.Ok) {f : Nat × Nat} {gs : List (Nat × Nat)} (e : N.forks = gs ++ [f]) {cs : List Int} (cl : cs.length = N.lanes) : endsM (N.again f) cs = endsM N cs := by
  have okf := ok.fk f (by rw [e]; simp)
  have w : (flow (N.forks ++ [f]) cs).1 = (flow N.forks cs).1 := by
    rw [e, flow_snoc, flow_snoc]
    have l := flow_len gs cs
    exact step_again (xs := (flow gs cs).1) (ts := (flow gs cs).2) (by omega) (by omega) okf.2.2
  show N.ends.map (fun e => (flow (N.forks ++ [f]) cs).1.getD e 0) = _
  rw [w]; rfl
theorem Prs.last {H : Hp} : ∀ {ps : List V} {fs : List (Nat × Nat)}, Prs H ps fs → ps ≠ [] → ∃ (qs : List V) (a : Addr) (gs : List (Nat × Nat)) (f : Nat × Nat), ps = qs ++ [.ref a] ∧ fs = gs ++ [f] ∧ H a = some (.tup [.int f.1, .int f.2])
  | [], [], _, n => absurd rfl n
  | [p], [f], ⟨⟨a, e, h⟩, _⟩, _ => ⟨[], a, [], f, by rw [e]; rfl, rfl, h⟩
  | p :: q :: ps, f :: g :: fs, ⟨_, r⟩, _ => by
    obtain ⟨qs, a, gs, k, e1, e2, h⟩ := Prs.last (ps := q :: ps) (fs := g :: fs) r (by simp)
    exact ⟨p :: qs, a, f :: gs, k, by rw [e1]; rfl, by rw [e2]; rfl, h⟩
  | [p], f :: g :: fs, ⟨_, r⟩, _ => False.elim r
  | p :: q :: ps, [f], ⟨_, r⟩, _ => False.elim r
end Bn
end
section
set_option maxHeartbeats 4000001
/-! what is a net, of anything -/
namespace Bn
open PySem L2 Own
/-- anything, rows so deep -/
def Deep (K : PySem.W.Frag) (H : Hp) : Nat → V → Prop
  | 0, x => AnyT K H x
  | n + 1, x => AnyT K H x ∧ ∀ xs, rowOf H x = some xs → xs.length ≤ 1000 ∧ ∀ y ∈ xs, Deep K H n y
theorem Deep.any {K : PySem.W.Frag} {H : Hp} : ∀ {n : Nat} {x : V}, Deep K H n x → AnyT K H x
  | 0, _, h => h
  | _ + 1, _, h => h.1
theorem Deep.less {K : PySem.W.Frag} {H : Hp} : ∀ {n : Nat} {x : V}, Deep K H (n + 1) x → Deep K H n x
  | 0, _, h => h.1
  | _ + 1, _, h => ⟨h.1, fun xs e => ⟨(h.2 xs e).1, fun y hy => ((h.2 xs e).2 y hy).less⟩⟩
theorem row_same {K : PySem.W.Frag} {H H' : Hp} {x : V} (s : Same H H') (a : AnyT K H x) : rowOf H' x = rowOf H x := by
  cases z : rowOf H x with
  | some xs =>
    obtain ⟨b, rfl, hb⟩ := rowOf_some z
    exact rowOf_tup (s _ _ hb)
  | none =>
    cases y : rowOf H' x with
    | none => rfl
    | some ys =>
      obtain ⟨b, rfl, hb⟩ := rowOf_some y
      obtain ⟨T, ty, _⟩ := a
      cases ty with
      | tup h => rw [rowOf_tup h] at z; cases z
      | lst h => rw [s _ _ h] at hb; cases hb
      | frz h => rw [s _ _ h] at hb; cases hb
      | dK h => rw [s _ _ h] at hb; cases hb
      | dT h => rw [s _ _ h] at hb; cases hb
      | ins h => rw [s _ _ h] at hb; cases hb
theorem perm_in {α : Type} [DecidableEq α] : ∀ {xs ys : List α}, xs.Nodup → (∀ x ∈ xs, x ∈ ys) → ys.length = xs.length → ys.Perm xs
  | [], ys, _, _, l => by rw [List.length_eq_zero_iff.mp l]
  | a :: t, ys, nd, sub, l => by
    have am := sub a List.mem_cons_self
    obtain ⟨na, nt⟩ := List.nodup_cons.mp nd
    refine (List.perm_cons_erase am).trans (.cons a (perm_in nt (fun x hx => ?_) ?_))
    · have ne : x ≠ a := by rintro rfl; exact na hx
      exact (List.mem_erase_of_ne ne).mpr (sub x (List.mem_cons_of_mem _ hx))
    · rw [List.length_erase_of_mem am, l]; rfl
theorem full_iff {ns ms : List Int} {b : Nat} (l : ns.length = b) (p : ms.Perm ns) (s : ms.Pairwise (· ≤ ·)) : ms = (List.range b).map (fun (i : Nat) => (i : Int)) ↔ ∀ i : Nat, i < b → (i : Int) ∈ ns := by
  constructor
  · rintro rfl i hi
    exact p.mem_iff.mp (List.mem_map.mpr ⟨i, List.mem_range.mpr hi, rfl⟩)
  · intro h
    have nd : ((List.range b).map (fun (i : Nat) => (i : Int))).Nodup := by
      rw [List.nodup_iff_pairwise_ne, List.pairwise_map]
      exact (List.nodup_iff_pairwise_ne.mp List.nodup_range).imp fun {x y} ne e => ne (by omega)
    refine List.Perm.eq_of_pairwise (le := (· ≤ ·)) (fun a c _ _ h1 h2 => Int.le_antisymm h1 h2) s ?_ (perm_in nd (fun x hx => ?_) ?_)
    · rw [List.pairwise_map]
      exact List.pairwise_lt_range.imp fun {x y} z => by omega
    · obtain ⟨i, hi, rfl⟩ := List.mem_map.mp hx
      exact p.mem_iff.mpr (h i (List.mem_range.mp hi))
    · rw [p.length_eq, l, List.length_map, List.length_range]
/-! the verdicts -/
def belowsV (H : Hp) (many b : Int) (x : V) : Bool := match rowOf H x with
  | some xs => decide ((xs.length : Int) = many) && xs.all (belowV b)
  | none => false
def forkV (H : Hp) (b : Int) (x : V) : Bool := match rowOf H x with
  | some [y, z] => belowV b y && (belowV b z && !decide (y = z))
  | _ => false
def forksV (H : Hp) (b : Int) (x : V) : Bool := match rowOf H x with
  | some xs => decide ((xs.length : Int) ≤ 128) && xs.all (forkV H b)
  | none => false
def lanesV (H : Hp) (b : Int) (x : V) : Bool := match rowOf H x with
  | some xs => (decide ((xs.length : Int) = b) && xs.all (belowV b)) && (List.range b.toNat).all (fun (i : Nat) => inV (V.int i) xs)
  | none => false
def netV (H : Hp) (x : V) : Bool := match rowOf H x with
  | some [l, f, e] => match l with
    | .int i => (decide (1 ≤ i) && decide (i ≤ 16)) && (forksV H i f && lanesV H i e)
    | _ => false
  | _ => false
end Bn
end
section
set_option maxHeartbeats 4000001
/-! things that were made: rows so long, so deep -/
namespace Bn
open PySem L2 Own
def Mk (K : PySem.W.Frag) (H : Hp) (b : Nat) : Nat → V → Prop
  | 0, x => AnyT K H x ∧ rowOf H x = none
  | h + 1, x => AnyT K H x ∧ ∀ xs, rowOf H x = some xs → xs.length ≤ b ∧ ∀ y ∈ xs, Mk K H b h y
theorem Mk.any {K : PySem.W.Frag} {H : Hp} {b : Nat} : ∀ {h : Nat} {x : V}, Mk K H b h x → AnyT K H x
  | 0, _, m => m.1
  | _ + 1, _, m => m.1
theorem Mk.deep {K : PySem.W.Frag} {H : Hp} {b : Nat} (hb : b ≤ 1000) : ∀ {h : Nat} (n : Nat) {x : V}, Mk K H b h x → Deep K H n x
  | 0, 0, _, m => m.1
  | 0, _ + 1, _, m => ⟨m.1, fun xs e => by rw [m.2] at e; cases e⟩
  | _ + 1, 0, _, m => m.1
  | _ + 1, n + 1, _, m => ⟨m.1, fun xs e => ⟨Nat.le_trans (m.2 xs e).1 hb, fun y hy => Mk.deep hb n ((m.2 xs e).2 y hy)⟩⟩
theorem Mk.same {K : PySem.W.Frag} {H H' : Hp} {b : Nat} (s : Same H H') : ∀ {h : Nat} {x : V}, Mk K H b h x → Mk K H' b h x
  | 0, _, m => ⟨AnyT.same s m.1, (row_same s m.1).trans m.2⟩
  | _ + 1, _, m => ⟨AnyT.same s m.1, fun xs e => by
    rw [row_same s m.1] at e
    exact ⟨(m.2 xs e).1, fun y hy => Mk.same s ((m.2 xs e).2 y hy)⟩⟩
theorem Mk.more {K : PySem.W.Frag} {H : Hp} {b b' : Nat} (hb : b ≤ b') : ∀ {h h' : Nat} {x : V}, h ≤ h' → Mk K H b h x → Mk K H b' h' x
  | 0, 0, _, _, m => m
  | 0, _ + 1, _, _, m => ⟨m.1, fun xs e => by rw [m.2] at e; cases e⟩
  | _ + 1, 0, _, le, _ => absurd le (Nat.not_succ_le_zero _)
  | _ + 1, _ + 1, _, le, m => ⟨m.1, fun xs e => ⟨Nat.le_trans (m.2 xs e).1 hb, fun y hy => Mk.more hb (Nat.le_of_succ_le_succ le) ((m.2 xs e).2 y hy)⟩⟩
theorem Mk.non {K : PySem.W.Frag} {H : Hp} {b h : Nat} : Mk K H b h .non := Mk.more (Nat.le_refl _) (Nat.zero_le _) ⟨⟨_, .non, _, rfl⟩, rfl⟩
theorem Mk.bl {K : PySem.W.Frag} {H : Hp} {b h : Nat} (x : Bool) : Mk K H b h (.bl x) := Mk.more (Nat.le_refl _) (Nat.zero_le _) ⟨⟨_, .bl x, _, rfl⟩, rfl⟩
theorem Mk.int {K : PySem.W.Frag} {H : Hp} {b h : Nat} (x : Int) : Mk K H b h (.int x) := Mk.more (Nat.le_refl _) (Nat.zero_le _) ⟨⟨_, .int x, _, rfl⟩, rfl⟩
theorem Mk.str {K : PySem.W.Frag} {H : Hp} {b h : Nat} (x : Str) : Mk K H b h (.str x) := Mk.more (Nat.le_refl _) (Nat.zero_le _) ⟨⟨_, .str x, _, rfl⟩, rfl⟩
theorem Mk.lst {K : PySem.W.Frag} {H : Hp} {b h : Nat} {a : Addr} {xs : List V} (e : H a = some (.lst xs)) : Mk K H b h (.ref a) := by
  refine Mk.more (Nat.le_refl _) (Nat.zero_le _) ⟨⟨_, .lst e, _, rfl⟩, ?_⟩
  cases z : rowOf H (.ref a) with
  | none => rfl
  | some ys =>
    obtain ⟨c, ec, hc⟩ := rowOf_some z
    cases ec; rw [e] at hc; cases hc
theorem Mk.dict {K : PySem.W.Frag} {H : Hp} {b h : Nat} {a : Addr} (e : H a = some (.dK [])) : Mk K H b h (.ref a) := by
  refine Mk.more (Nat.le_refl _) (Nat.zero_le _) ⟨⟨_, .dK e, _, rfl⟩, ?_⟩
  cases z : rowOf H (.ref a) with
  | none => rfl
  | some ys =>
    obtain ⟨c, ec, hc⟩ := rowOf_some z
    cases ec; rw [e] at hc; cases hc
theorem Mk.tup {K : PySem.W.Frag} {H : Hp} {b h : Nat} {a : Addr} {xs : List V} (e : H a = some (.tup xs)) (l : xs.length ≤ b) (m : ∀ y ∈ xs, Mk K H b h y) : Mk K H b (h + 1) (.ref a) :=
  ⟨⟨_, .tup e, _, rfl⟩, fun ys ey => by
    rw [rowOf_tup e] at ey
    obtain rfl := Option.some.inj ey
    exact ⟨l, m⟩⟩
/-- a new tuple of things -/
theorem Mk.new {K : PySem.W.Frag} {H : Hp} {b h : Nat} {a : Addr} {xs : List V} (f : H a = none) (l : xs.length ≤ b) (m : ∀ y ∈ xs, Mk K H b h y) : Mk K (L2.upd H a (.tup xs)) b (h + 1) (.ref a) :=
  Mk.tup upd_same l fun y hy => Mk.same (same_new f _) (m y hy)
theorem newAt {H : Hp} {a : Addr} (_ : H a = none) (o : HO) : L2.upd H a o a = some o := upd_same
theorem Mk.lstN {K : PySem.W.Frag} {H : Hp} {a : Addr} (f : H a = none) (xs : List V) {b h : Nat} : Mk K (L2.upd H a (.lst xs)) b h (.ref a) := Mk.lst (newAt f _)
theorem Mk.dictN {K : PySem.W.Frag} {H : Hp} {a : Addr} (f : H a = none) {b h : Nat} : Mk K (L2.upd H a (.dK [])) b h (.ref a) := Mk.dict (newAt f _)
theorem Mk.rngN {K : PySem.W.Frag} {H : Hp} {a : Addr} (f : H a = none) (n : Nat) {b h : Nat} (l : n ≤ b) : Mk K (L2.upd H a (if false = true then HO.lst (upTo n) else .tup (upTo n))) b (h + 1) (.ref a) :=
  Mk.tup (xs := nums (List.range n)) (newAt f _) (by unfold nums; rw [List.length_map, List.length_range]; exact l) (fun y hy => by
    obtain ⟨i, _, rfl⟩ := List.mem_map.mp hy
    exact Mk.int _)
end Bn
end
section
set_option maxHeartbeats 4000001
namespace K01
open PySem L2 Own Bn
def top (i : Nat) : Stmt := PySem.Challenge.pw_stairlanes_k01_nets_of_anything.main.body.getD i (.Pass ⟨0, 0, 0, 0⟩)
end K01
end
section
set_option maxHeartbeats 4000001
namespace K01
open PySem L2 Own Bn
abbrev sTake : Stmt := top 14
/-- the state that the draws turn: three ints, the last one counts them -/
structure StAt (H : Hp) (l : Addr) (n : Nat) : Prop where
  ex : ∃ a b c : Int, H l = some (.lst [.int a, .int b, .int c]) ∧ 0 ≤ a ∧ 0 ≤ b ∧ b < 2 ^ 62 ∧ 0 ≤ c ∧ c ≤ n
theorem StAt.mono {H : Hp} {l : Addr} {n m : Nat} (h : StAt H l n) (k : n ≤ m) : StAt H l m := by
  obtain ⟨a, b, c, h1, h2, h3, h4, h5, h6⟩ := h.ex
  exact ⟨a, b, c, h1, h2, h3, h4, h5, by omega⟩
def spTake (_K : PySem.W.Frag) : Sp := fun vs H Q _ => ∃ (l : Addr) (m : Int) (n : Nat), vs = [.ref l, .int m] ∧ 0 < m ∧ m < 1073741824 ∧ StAt H l n ∧ n < 2 ^ 60 ∧
  ∀ v H', 0 ≤ v → v < m → StAt H' l (n + 1) → But l H H' → Q (.int v) H'
section
variable {P : Program} {w : World} {K : PySem.W.Frag} {mg : Str → Option Value} {base : Heap}
theorem scT : FnScope ["_law_state", "_law_many", "_law_digit", "_law_mixed"] ["_law_state", "_law_many"] (defScope sTake) := ⟨rfl, rfl, rfl, by decide +kernel, rfl, by decide +kernel, by decide +kernel⟩
theorem ok_take {f : Addr} {fd : FuncData} (F : Fun K "_law_take" "_law_take" sTake f fd) : FnOk P w K mg base CX0 1 f fd ["_law_state", "_law_many"] (spTake K) := by
  refine F.ok scT (fun vs H Q E h => ?_) (fun cdv A outer s H vs Q E hr h => ?_)
  · obtain ⟨l, m, n, rfl, _⟩ := h
    rfl
  · obtain ⟨l, m, n, rfl, m0, m1, S, hn, k⟩ := h
    obtain ⟨a, b, c, hl, ha, hb, hb2, hc, hcn⟩ := S.ex
    refine ⟨_, pss_cons (ps_if (pt_cmpR op_gt (pe_ix ix_list (pv 0) pe_int (fun _ _ => rfl)) pe_int (nomark _))
        (pss_cons (ps_set (i := 2) scT.nd rfl (Or.inl rfl) (pe_op op_mod (pe_ix ix_list (pv 0) pe_int (fun _ _ => rfl)) (pv 1)))
        (pss_cons (ps_asg (pe_op op_fdiv (pe_ix ix_list (pv 0) pe_int (fun _ _ => rfl)) (pv 1)) (pg_sub (pv 0) pe_int set_list))
        (pss_one (ps_ret (pv 2))))) pss_nil)
      (pss_cons (ps_asg (pe_op op_add (pe_ix ix_list (pv 0) pe_int (fun _ _ => rfl)) pe_int) (pg_sub (pv 0) pe_int set_list))
      (pss_cons (ps_set (i := 3) scT.nd rfl (Or.inl rfl) (pe_op op_mod (pe_op op_mul (pe_op op_add (pe_op op_add (pe_ix ix_list (pv 0) pe_int (fun _ _ => rfl)) (pe_op op_mul (pe_op op_mul pe_int (pe_ix ix_list (pv 0) pe_int (fun _ _ => rfl))) (pe_ix ix_list (pv 0) pe_int (fun _ _ => rfl)))) pe_int) pe_int) pe_int))
      (pss_cons (ps_set (i := 3) scT.nd rfl (Or.inl rfl) (pe_op op_mod (pe_op op_mul (pv 3) (pe_op op_add (pe_op op_mod (pv 3) pe_int) (pe_op op_mul pe_int (pe_ix ix_list (pv 0) pe_int (fun _ _ => rfl))))) pe_int))
      (pss_one (ps_ret (pe_op op_mod (pe_op op_add (pe_op op_fdiv (pv 3) pe_int) (pe_op op_fdiv (pv 3) pe_int)) (pv 1))))))), ?_⟩
    refine ⟨_, rfl, l, _, _, _, rfl, rfl, SqL.of hl, rfl, _, _, rfl, rfl, _, rfl, ?_⟩
    refine ite2 (fun q => ?_) (fun q => ?_)
    · refine ⟨_, rfl, l, _, _, _, rfl, rfl, SqL.of hl, rfl, _, rfl, _, _, rfl, rfl, m0, ?_⟩
      refine ⟨_, rfl, l, _, _, _, rfl, rfl, SqL.of hl, rfl, _, rfl, _, _, rfl, rfl, ⟨m0, m1⟩, _, rfl, l, _, _, 0, rfl, rfl, hl, rfl, _, rfl, ?_⟩
      refine k _ _ (Int.emod_nonneg _ (by omega)) (Int.emod_lt_of_pos _ m0) ⟨a / m, b, c, upd_same, Int.ediv_nonneg ha (by omega), hb, hb2, hc, by omega⟩ fun x o e ne => ?_
      rw [upd_ne ne]; exact e
    · refine ⟨_, rfl, l, _, _, _, rfl, rfl, SqL.of hl, rfl, _, _, rfl, rfl, _, rfl, l, _, _, 2, rfl, rfl, hl, rfl, ?_⟩
      generalize hH : upd H l (HO.lst ([V.int a, V.int b, V.int c].set 2 (V.int (c + 1)))) = H1
      have h1 : H1 l = some (.lst [.int a, .int b, .int (c + 1)]) := by rw [← hH]; exact upd_same
      have sm : (-(2 ^ 64) : Int) < c + 1 ∧ c + 1 < 2 ^ 64 := ⟨by omega, by omega⟩
      refine ⟨_, rfl, l, _, _, _, rfl, rfl, SqL.of h1, rfl, _, rfl, l, _, _, _, rfl, rfl, SqL.of h1, rfl, _, _, rfl, rfl, .inl ⟨by decide, by decide⟩, _, rfl, l, _, _, _, rfl, rfl, SqL.of h1, rfl, _, _, rfl, rfl, .inr sm, _, _, rfl, rfl, _, _, rfl, rfl, _, _, rfl, rfl, .inr ⟨by decide, by decide⟩, _, _, rfl, rfl, (by show (0 : Int) < 2305843009213693921; decide), ?_⟩
      generalize hx : (b + 65537 * (c + 1) * (c + 1) + 11) * 48271 % 2305843009213693921 = x
      have x0 : 0 ≤ x := by rw [← hx]; exact Int.emod_nonneg _ (by decide)
      have x1 : x < 2305843009213693921 := by rw [← hx]; exact Int.emod_lt_of_pos _ (by decide)
      refine ⟨_, rfl, _, rfl, _, _, rfl, rfl, (by show (0 : Int) < 1000003; decide), _, rfl, l, _, _, _, rfl, rfl, SqL.of h1, rfl, _, _, rfl, rfl, .inl ⟨by decide, by decide⟩, _, _, rfl, rfl, _, _, rfl, rfl, .inl ⟨by omega, by omega⟩, _, _, rfl, rfl, (by show (0 : Int) < 2305843009213693907; decide), ?_⟩
      refine ⟨_, rfl, _, _, rfl, rfl, ⟨by decide, by decide⟩, _, rfl, _, _, rfl, rfl, ⟨by decide, by decide⟩, _, _, rfl, rfl, _, rfl, _, _, rfl, rfl, m0, ?_⟩
      refine k _ _ (Int.emod_nonneg _ (by omega)) (Int.emod_lt_of_pos _ m0) ⟨a, b, c + 1, h1, ha, hb, hb2, by omega, by omega⟩ fun y o e ne => ?_
      rw [← hH, upd_ne ne]; exact e
end
end K01
end
section
set_option maxHeartbeats 4000001
namespace K01
open PySem L2 Own Bn
abbrev sHand : Stmt := top 13
theorem cut_ints (ns : List Int) (lo hi : Option Int) (h : ns.length ≤ 63) : ∃ ms : List Int, cutV (ns.map V.int) lo hi = ms.map V.int ∧ ms.length ≤ 63 := by
  refine ⟨(ns.drop (HT.sIx (ns.map V.int).length 0 lo)).take (HT.sIx (ns.map V.int).length (ns.map V.int).length hi - HT.sIx (ns.map V.int).length 0 lo), ?_, ?_⟩
  · unfold cutV; rw [List.map_take, List.map_drop]
  · rw [List.length_take, List.length_drop]; omega
theorem int_at {ms : List Int} {i : Nat} {x : V} (h : (ms.map V.int)[i]? = some x) : i < ms.length ∧ ∃ z, x = V.int z := by
  rw [List.getElem?_map] at h
  cases e : ms[i]? with
  | none => rw [e] at h; cases h
  | some z => rw [e] at h; exact ⟨(List.getElem?_eq_some_iff.mp e).1, z, (Option.some.inj h).symm⟩
def spHand (K : PySem.W.Frag) : Sp := fun vs H Q _ => ∃ (a : Addr) (ns : List Int), vs = [.ref a] ∧ SqL K H a (ns.map V.int) ∧ ns.length ≤ 63 ∧
  ∀ l H', H l = none → Same H H' → StAt H' l 0 → Q (.ref l) H'
theorem far_le (i : Nat) (f : Int) (h0 : 0 < f) (h : f ≤ 2 ^ (200 * i)) : f * 10 ^ 60 ≤ 2 ^ (200 * (i + 1)) := by
  have e : (2 : Int) ^ (200 * (i + 1)) = 2 ^ (200 * i) * 2 ^ 200 := by rw [Nat.mul_add, Int.pow_add]
  rw [e]
  have t : (10 : Int) ^ 60 ≤ 2 ^ 200 := by decide
  exact Int.le_trans (Int.mul_le_mul_of_nonneg_left t (by omega)) (Int.mul_le_mul_of_nonneg_right h (by decide))
theorem far_small {i : Nat} {f : Int} (hi : i ≤ 63) (h0 : 0 < f) (h : f ≤ 2 ^ (200 * i)) : f.natAbs < 2 ^ 20000 := by
  have e : (2 : Int) ^ (200 * i) = ((2 ^ (200 * i) : Nat) : Int) := by rw [Int.natCast_pow]; rfl
  have l : (2 : Nat) ^ (200 * i) < 2 ^ 20000 := Nat.pow_lt_pow_right (by decide) (by omega)
  rw [e] at h
  generalize (2 : Nat) ^ 20000 = N at *
  omega
theorem wide (n : Nat) (h : 1 ≤ n) : (1 : Nat) < 2 ^ n := Nat.one_lt_two_pow (by omega)
theorem rest_small (x : Int) : (x % 10 ^ 60).natAbs < 2 ^ 20000 := by
  have a := Int.emod_nonneg x (show (10 : Int) ^ 60 ≠ 0 by decide)
  have b := Int.emod_lt_of_pos x (show (0 : Int) < 10 ^ 60 by decide)
  have c : (10 : Nat) ^ 60 < 2 ^ 200 := by decide
  have d : (2 : Nat) ^ 200 < 2 ^ 20000 := Nat.pow_lt_pow_right (by decide) (by decide)
  have e : ((10 : Int) ^ 60) = ((10 ^ 60 : Nat) : Int) := by decide
  rw [e] at a b ⊢
  generalize (2 : Nat) ^ 20000 = N at *
  generalize (2 : Nat) ^ 200 = M at *
  omega
section
variable {P : Program} {w : World} {K : PySem.W.Frag} {mg : Str → Option Value} {base : Heap}
theorem scH : FnScope ["_law_script", "_law_state", "_law_far", "_law_cell", "_law_k", "_law_one"] ["_law_script"] (defScope sHand) := ⟨rfl, rfl, rfl, by decide +kernel, rfl, by decide +kernel, by decide +kernel⟩
theorem ok_hand {f : Addr} {fd : FuncData} (F : Fun K "_law_hand" "_law_hand" sHand f fd) (G : Mgs mg) : FnOk P w K mg base CX0 1 f fd ["_law_script"] (spHand K) := by
  refine F.ok scH (fun vs H Q E h => ?_) (fun cdv A outer s H vs Q E hr h => ?_)
  · obtain ⟨a, ns, rfl, _⟩ := h
    rfl
  · obtain ⟨a, ns, rfl, hS, h63, k⟩ := h
    -- the loop over all cells, and the end
    obtain ⟨t', hR, hq⟩ : ∃ t', PSs (cxOf CX0 P w K mg base ["_law_script", "_law_state", "_law_far", "_law_cell", "_law_k", "_law_one"] "_law_hand" (defScope sHand) f cdv A outer s H E).nox ((defBody sHand).drop 2) t' ∧
        ∀ (l : Addr) (v2 v3 v4 v5 : Option V) (H' : Hp) (x : Int), H l = none → Same H H' → 0 ≤ x → H' l = some (.lst [.int x, .int 0, .int 0]) → t' { nx := fun _ H' => Q .non H', rt := Q } [some (.ref a), some (.ref l), v2, v3, v4, v5] H' := by
      refine ⟨_, pss_cons (ps_for PassesOwn.never rfl (pi_enum true rfl G.enum (pa_cons (pe_slice sl_list (pv 0) po_none (po_some pe_int)) pa_nil)) (pg_tup rfl (pgs_cons (pg_name (i := 4) scH.nd rfl (Or.inl rfl)) (pgs_cons (pg_name (i := 3) scH.nd rfl (Or.inl rfl)) pgs_nil)))
          (pss_cons (ps_set (i := 5) scH.nd rfl (Or.inl rfl) (pe_op op_add (pe_op op_add (pe_op op_mod (pv 3) pe_int) (pe_op op_mul pe_int (pv 4))) pe_int))
          (pss_one (ps_asg (pe_op op_mod (pe_op op_add (pe_op op_mul (pe_ix ix_list (pv 1) pe_int (fun _ _ => rfl)) pe_int) (pv 5)) pe_int) (pg_sub (pv 1) pe_int set_list)))))
        (pss_one (ps_ret (pv 1))), ?_⟩
      intro l v2 v3 v4 v5 H1 x hl s1 x0 h1
      obtain ⟨ms, em, lm⟩ := cut_ints ns none (some 63) h63
      refine ⟨_, rfl, 63, rfl, a, _, rfl, s1.seq hS, fun p hp => ?_⟩
      have npl : p ≠ l := fun e => by rw [e, h1] at hp; cases hp
      refine ⟨p, ms.map V.int, rfl, SqL.of (by rw [← em]; exact upd_same), for_enum (K := K) (b := true) (a := p) (xs := ms.map V.int) (fun i σ H2 => (∃ w2 w3 w4 w5, σ = [some (.ref a), some (.ref l), w2, w3, w4, w5]) ∧ Same H H2 ∧ H2 p = some (.lst (ms.map V.int)) ∧ ∃ y : Int, 0 ≤ y ∧ y < 2305843009213693951 ∧ H2 l = some (.lst [.int x, .int y, .int 0]))
        ⟨⟨_, _, _, _, rfl⟩, s1.trans (same_new hp _), by rw [← em]; exact upd_same, 0, by decide, by decide, by rw [upd_ne npl.symm]; exact h1⟩ (fun i σ H2 _ q => SqL.of q.2.2.1) ?_ ?_⟩
      · rintro i v σ H2 T hi hT ⟨⟨w2, w3, w4, w5, rfl⟩, s2, h2, y, y0, y1, h3⟩
        obtain ⟨il, z, rfl⟩ := int_at hi
        have nTl : l ≠ T := ne_of_none h3 hT
        have nTp : p ≠ T := ne_of_none h2 hT
        refine ⟨T, _, rfl, SqT.of upd_same, rfl, _, _, rfl, _, _, rfl, rfl, ?_⟩
        refine ⟨_, rfl, _, _, rfl, rfl, (by show (0 : Int) < 2305843009213693951; decide), _, rfl, _, _, rfl, rfl, .inl ⟨by decide, by decide⟩, _, _, rfl, rfl, _, _, rfl, rfl, ?_⟩
        have h3' : (upd H2 T (.tup [.int i, .int z])) l = some (.lst [.int x, .int y, .int 0]) := by rw [upd_ne nTl]; exact h3
        refine ⟨_, rfl, l, _, _, _, rfl, rfl, SqL.of h3', rfl, _, _, rfl, rfl, .inr ⟨by decide, by decide⟩, _, rfl, _, _, rfl, rfl, _, _, rfl, rfl, (by show (0 : Int) < 2305843009213693951; decide), _, rfl, l, _, _, 1, rfl, rfl, h3', rfl, ?_⟩
        refine ⟨⟨_, _, _, _, rfl⟩, fun b o e => ?_, ?_, _, Int.emod_nonneg _ (by decide), Int.emod_lt_of_pos _ (by decide), upd_same⟩
        · rw [upd_ne (ne_of_none e hl), upd_ne (ne_of_none (s2 b o e) hT)]; exact s2 b o e
        · rw [upd_ne npl, upd_ne nTp]; exact h2
      · rintro σ H2 ⟨⟨w2, w3, w4, w5, rfl⟩, s2, h2, y, y0, y1, h3⟩
        exact ⟨_, rfl, k l H2 hl s2 ⟨x, y, 0, h3, x0, y0, by omega, by decide, by decide⟩⟩
    refine ⟨_, pss_cons (ps_set (i := 1) scH.nd rfl (Or.inl rfl) (pe_lst (pa_cons pe_int (pa_cons pe_int (pa_cons pe_int pa_nil)))))
      (pss_cons (ps_if (pw_and (pt_cmpR op_gt (pe_callB call_len_seq (by rfl) G.len PySem.boot_len (pa_cons (pv 0) pa_nil)) pe_int (nomark _)) (pw_and1 (pt_cmpR op_ge (pe_ix ix_list (pv 0) pe_int (fun _ _ => rfl)) (pe_op op_pow pe_int pe_int) (nomark _)))).pt
        (pss_cons (ps_set (i := 2) scH.nd rfl (Or.inl rfl) pe_int)
        (pss_one (ps_for PassesOwn.never rfl (pi_list (pe_slice sl_list (pv 0) po_none (po_some pe_int))) (pg_name (i := 3) scH.nd rfl (Or.inl rfl))
          (pss_cons (ps_asg (pe_op op_add (pe_ix ix_list (pv 1) pe_int (fun _ _ => rfl)) (pe_op op_mulW (pe_op op_mod (pe_callB call_abs (by rfl) G.abs (by rfl) (pa_cons (pv 3) pa_nil)) (pe_op op_pow pe_int pe_int)) (pv 2))) (pg_sub (pv 1) pe_int set_list))
          (pss_one (ps_set (i := 2) scH.nd rfl (Or.inl rfl) (pe_op op_mulW (pv 2) (pe_op op_pow pe_int pe_int))))))))
        pss_nil) hR), ?_⟩
    refine ⟨(by show 3 ≤ sizeLine; decide), fun l hl => ?_⟩
    have s0 : Same H (upd H l (.lst [.int 0, .int 0, .int 0])) := same_new hl _
    refine ⟨_, rfl, a, _, rfl, .inl (s0.seq hS), _, _, rfl, rfl, _, rfl, ?_⟩
    refine ite2 (fun q => ?_) (fun q => ?_)
    · have hpos : 0 < ns.length := by
        have := of_decide_eq_true q
        rw [List.length_map] at this
        omega
      refine ⟨_, rfl, a, _, _, _, rfl, rfl, s0.seq hS, (atI_nat (j := 0) (by rw [List.getElem?_map, List.getElem?_eq_getElem hpos]; rfl)), _, _, rfl, rfl, ⟨by decide, by decide, by decide⟩, _, _, rfl, rfl, _, rfl, ?_⟩
      refine ite2 (fun q2 => ?_) (fun q2 => ?_)
      · obtain ⟨ms, em, lm⟩ := cut_ints ns none (some 63) h63
        refine ⟨_, rfl, 63, rfl, a, _, rfl, s0.seq hS, fun p hp => ?_⟩
        have npl : p ≠ l := fun e => by rw [e, upd_same] at hp; cases hp
        refine ⟨p, rfl, ⟨_, SqL.of upd_same⟩, for_list (K := K) (a := p) (xs := ms.map V.int) (fun i σ H2 => (∃ (far : Int) (w3 w4 w5 : Option V), σ = [some (.ref a), some (.ref l), some (.int far), w3, w4, w5] ∧ 0 < far ∧ far ≤ 2 ^ (200 * i)) ∧ Same H H2 ∧ H2 p = some (.lst (ms.map V.int)) ∧ ∃ x : Int, 0 ≤ x ∧ H2 l = some (.lst [.int x, .int 0, .int 0]))
          ⟨⟨1, _, _, _, rfl, by decide, by decide⟩, s0.trans (same_new hp _), by rw [← em]; exact upd_same, 0, by decide, by rw [upd_ne npl.symm]; exact upd_same⟩ (fun i σ H2 _ q => SqL.of q.2.2.1) ?_ ?_⟩
        · rintro i v σ H2 hi ⟨⟨far, w3, w4, w5, rfl, f0, f1⟩, s2, h2, x, x0, h3⟩
          obtain ⟨il, z, rfl⟩ := int_at hi
          have fs := far_small (by omega) f0 f1
          refine ⟨_, rfl, l, _, _, _, rfl, rfl, SqL.of h3, rfl, _, rfl, _, rfl, _, _, rfl, rfl, ⟨by decide, by decide, by decide⟩, _, _, rfl, rfl, (by show (0 : Int) < 10 ^ 60; decide), _, rfl, _, _, rfl, rfl, ⟨?_, fs⟩, _, _, rfl, rfl, _, rfl, l, _, _, 0, rfl, rfl, h3, rfl, ?_⟩
          · exact rest_small _
          refine ⟨_, rfl, _, _, rfl, rfl, ⟨by decide, by decide, by decide⟩, _, _, rfl, rfl, ⟨fs, by decide⟩, ?_⟩
          refine ⟨⟨_, _, _, _, rfl, ?_, far_le i far f0 f1⟩, fun b o e => ?_, ?_, _, ?_, upd_same⟩
          · exact Int.mul_pos f0 (by decide)
          · rw [upd_ne (ne_of_none e hl)]; exact s2 b o e
          · rw [upd_ne npl]; exact h2
          · exact Int.add_nonneg x0 (Int.mul_nonneg (Int.emod_nonneg _ (by decide)) (by omega))
        · rintro σ H2 ⟨⟨far, w3, w4, w5, rfl, _, _⟩, s2, h2, x, x0, h3⟩
          exact hq l _ _ _ _ H2 x hl s2 x0 h3
      · exact hq l _ _ _ _ _ 0 hl s0 (by decide) upd_same
    · exact hq l _ _ _ _ _ 0 hl s0 (by decide) upd_same
end
end K01
end
section
set_option maxHeartbeats 4000001
namespace K01
open PySem L2 Own Bn
abbrev sNet : Stmt := top 15
theorem StAt.keep {H H' : Hp} {l : Addr} {n : Nat} (S : StAt H l n) (s : Same H H') : StAt H' l n := by
  obtain ⟨a, b, c, h, r⟩ := S.ex
  exact ⟨a, b, c, s _ _ h, r⟩
theorem StAt.ne {H : Hp} {l p : Addr} {n : Nat} (S : StAt H l n) (h : H p = none) : l ≠ p := by
  obtain ⟨a, b, c, e, _⟩ := S.ex
  exact ne_of_none e h
theorem StAt.upd {H : Hp} {l p : Addr} {o : HO} {n : Nat} (S : StAt H l n) (h : l ≠ p) : StAt (L2.upd H p o) l n := by
  obtain ⟨a, b, c, e, r⟩ := S.ex
  exact ⟨a, b, c, by rw [upd_ne h]; exact e, r⟩
theorem tups_but {H H' : Hp} {l : Addr} {n : Nat} (x : But l H H') (S : StAt H l n) : Tups H H' := fun a xs e => x a _ e (by
  rintro rfl
  obtain ⟨_, _, _, z, _⟩ := S.ex
  rw [z] at e; cases e)
theorem nums_erase (es : List Nat) (k : Nat) : (nums es).eraseIdx k = nums (es.eraseIdx k) := by
  unfold nums
  rw [List.eraseIdx_eq_take_drop_succ, List.eraseIdx_eq_take_drop_succ, List.map_append, List.map_take, List.map_drop]
theorem erase_perm {es : List Nat} {k : Nat} (h : k < es.length) : (es[k] :: es.eraseIdx k).Perm es := by
  have e : es.take k ++ es[k] :: es.drop (k + 1) = es := by rw [← List.drop_eq_getElem_cons h, List.take_append_drop]
  have p := (List.perm_middle (a := es[k]) (l₁ := es.take k) (l₂ := es.drop (k + 1))).symm
  rw [e] at p
  rw [List.eraseIdx_eq_take_drop_succ]
  exact p
def spNet : Sp := fun vs H Q _ => ∃ (l : Addr) (n : Nat), vs = [.ref l, .int 16, .int 128] ∧ StAt H l n ∧ n < 2 ^ 59 ∧ ∀ r fr er ps N H', Nt.Ok N → NetAt H' r fr er ps N → StAt H' l (n + 500) → But l H H' → Q (.ref r) H'
section
variable {P : Program} {w : World} {K : PySem.W.Frag} {mg : Str → Option Value} {base : Heap}
theorem scN : FnScope ["_law_state", "_law_lanes_most", "_law_forks_most", "_law_lanes", "_law_many", "_law_forks", "_law_k", "_law_one", "_law_other", "_law_way", "_law_left", "_law_ends", "_law_shuffled"] ["_law_state", "_law_lanes_most", "_law_forks_most"] (defScope sNet) := ⟨rfl, rfl, rfl, by decide +kernel, rfl, by decide +kernel, by decide +kernel⟩
theorem ok_net {f fK : Addr} {fd dK : FuncData} (F : Fun K "_law_net" "_law_net" sNet f fd) (G : Mgs mg) (UK : Use P w K mg base "_law_take" ["_law_state", "_law_many"] 1 (spTake K) fK dK) : FnOk P w K mg base CX0 2 f fd ["_law_state", "_law_lanes_most", "_law_forks_most"] spNet := by
  refine F.ok scN (fun vs H Q E h => ?_) (fun cdv A outer s H vs Q E hr h => ?_)
  · obtain ⟨l, n, rfl, _⟩ := h
    rfl
  obtain ⟨l, n, rfl, S, hn, k⟩ := h
  refine ⟨_, (@pss_cons _ _ _ _ _ (@ps_set _ _ 3 _ _ _ _ scN.nd rfl (Or.inl rfl) (@pe_callB _ _ _ _ _ _ _ _ _ (call_min2 rfl) (by rfl) G.min (by rfl) (@pa_cons _ _ _ _ _ (@pv _ 1 _ _ (by rfl) (by first | exact Or.inl rfl | exact Or.inr (Or.inl rfl) | exact Or.inr (Or.inr rfl)) (by decide) (by decide)) (@pa_cons _ _ _ _ _ (@pe_ix _ _ _ _ _ _ _ ix_list (@pe_lst _ _ _ _ (@pa_cons _ _ _ _ _ pe_int (@pa_cons _ _ _ _ _ pe_int (@pa_cons _ _ _ _ _ pe_int (@pa_cons _ _ _ _ _ pe_int (@pa_cons _ _ _ _ _ pe_int (@pa_cons _ _ _ _ _ pe_int (@pa_cons _ _ _ _ _ pe_int (@pa_cons _ _ _ _ _ pe_int (@pa_cons _ _ _ _ _ pe_int (@pa_cons _ _ _ _ _ pe_int pa_nil (by rfl)) (by rfl)) (by rfl)) (by rfl)) (by rfl)) (by rfl)) (by rfl)) (by rfl)) (by rfl)) (by rfl))) (@pe_call _ _ _ _ _ _ _ _ _ _ _ _ _ _ _ _ UK.ok hr (by rfl) UK.m UK.kp UK.b .nil pass0 (@pa_cons _ _ _ _ _ (@pv _ 0 _ _ (by rfl) (by first | exact Or.inl rfl | exact Or.inr (Or.inl rfl) | exact Or.inr (Or.inr rfl)) (by decide) (by decide)) (@pa_cons _ _ _ _ _ pe_int pa_nil (by rfl)) (by rfl)) (by decide) (by rfl) (by rfl)) (fun _ _ => rfl)) pa_nil (by rfl)) (by rfl)) (by decide) (by decide) (by rfl) (by rfl)) (by rfl) (by first | exact .inl rfl | exact .inr rfl | assumption)) (@pss_cons _ _ _ _ _ (@ps_set _ _ 4 _ _ _ _ scN.nd rfl (Or.inl rfl) (@pe_op _ _ _ _ _ _ _ _ op_mul (@pe_callB _ _ _ _ _ _ _ _ _ (call_min2 rfl) (by rfl) G.min (by rfl) (@pa_cons _ _ _ _ _ (@pv _ 2 _ _ (by rfl) (by first | exact Or.inl rfl | exact Or.inr (Or.inl rfl) | exact Or.inr (Or.inr rfl)) (by decide) (by decide)) (@pa_cons _ _ _ _ _ (@pe_ix _ _ _ _ _ _ _ ix_list (@pe_lst _ _ _ _ (@pa_cons _ _ _ _ _ pe_int (@pa_cons _ _ _ _ _ pe_int (@pa_cons _ _ _ _ _ pe_int (@pa_cons _ _ _ _ _ pe_int (@pa_cons _ _ _ _ _ pe_int (@pa_cons _ _ _ _ _ pe_int (@pa_cons _ _ _ _ _ pe_int (@pa_cons _ _ _ _ _ pe_int (@pa_cons _ _ _ _ _ pe_int pa_nil (by rfl)) (by rfl)) (by rfl)) (by rfl)) (by rfl)) (by rfl)) (by rfl)) (by rfl)) (by rfl))) (@pe_call _ _ _ _ _ _ _ _ _ _ _ _ _ _ _ _ UK.ok hr (by rfl) UK.m UK.kp UK.b .nil pass0 (@pa_cons _ _ _ _ _ (@pv _ 0 _ _ (by rfl) (by first | exact Or.inl rfl | exact Or.inr (Or.inl rfl) | exact Or.inr (Or.inr rfl)) (by decide) (by decide)) (@pa_cons _ _ _ _ _ pe_int pa_nil (by rfl)) (by rfl)) (by decide) (by rfl) (by rfl)) (fun _ _ => rfl)) pa_nil (by rfl)) (by rfl)) (by decide) (by decide) (by rfl) (by rfl)) (@pe_callTy _ _ _ _ _ _ _ _ _ call_int1 (by rfl) G.int (by rfl) (@pa_cons _ _ _ _ _ (@pe_cmpR _ _ _ _ _ _ _ _ op_gt (@pv _ 3 _ _ (by rfl) (by first | exact Or.inl rfl | exact Or.inr (Or.inl rfl) | exact Or.inr (Or.inr rfl)) (by decide) (by decide)) pe_int (nomark _)) pa_nil (by rfl)) (by decide) (by decide) (by rfl) (by rfl))) (by rfl) (by first | exact .inl rfl | exact .inr rfl | assumption)) (@pss_cons _ _ _ _ _ (@ps_set _ _ 5 _ _ _ _ scN.nd rfl (Or.inl rfl) (@pe_lst _ _ _ _ pa_nil) (by rfl) (by first | exact .inl rfl | exact .inr rfl | assumption)) (@pss_cons _ _ _ _ _ (@ps_for _ _ _ _ _ _ _ _ PassesOwn.never rfl (@pi_range1 _ _ _ _ _ _ rfl G.range (@pa_cons _ _ _ _ _ (@pv _ 4 _ _ (by rfl) (by first | exact Or.inl rfl | exact Or.inr (Or.inl rfl) | exact Or.inr (Or.inr rfl)) (by decide) (by decide)) pa_nil (by rfl)) (by rfl)) (@pg_name _ _ 6 _ scN.nd rfl (Or.inl rfl) (by first | exact .inl rfl | exact .inr rfl | assumption)) (@pss_cons _ _ _ _ _ (@ps_set _ _ 7 _ _ _ _ scN.nd rfl (Or.inl rfl) (@pe_call _ _ _ _ _ _ _ _ _ _ _ _ _ _ _ _ UK.ok hr (by rfl) UK.m UK.kp UK.b .nil pass0 (@pa_cons _ _ _ _ _ (@pv _ 0 _ _ (by rfl) (by first | exact Or.inl rfl | exact Or.inr (Or.inl rfl) | exact Or.inr (Or.inr rfl)) (by decide) (by decide)) (@pa_cons _ _ _ _ _ (@pv _ 3 _ _ (by rfl) (by first | exact Or.inl rfl | exact Or.inr (Or.inl rfl) | exact Or.inr (Or.inr rfl)) (by decide) (by decide)) pa_nil (by rfl)) (by rfl)) (by decide) (by rfl) (by rfl)) (by rfl) (by first | exact .inl rfl | exact .inr rfl | assumption)) (@pss_cons _ _ _ _ _ (@ps_set _ _ 8 _ _ _ _ scN.nd rfl (Or.inl rfl) (@pe_op _ _ _ _ _ _ _ _ op_mod (@pe_op _ _ _ _ _ _ _ _ op_add (@pe_op _ _ _ _ _ _ _ _ op_add (@pv _ 7 _ _ (by rfl) (by first | exact Or.inl rfl | exact Or.inr (Or.inl rfl) | exact Or.inr (Or.inr rfl)) (by decide) (by decide)) pe_int) (@pe_call _ _ _ _ _ _ _ _ _ _ _ _ _ _ _ _ UK.ok hr (by rfl) UK.m UK.kp UK.b .nil pass0 (@pa_cons _ _ _ _ _ (@pv _ 0 _ _ (by rfl) (by first | exact Or.inl rfl | exact Or.inr (Or.inl rfl) | exact Or.inr (Or.inr rfl)) (by decide) (by decide)) (@pa_cons _ _ _ _ _ (@pe_callB _ _ _ _ _ _ _ _ _ (call_max2 rfl) (by rfl) G.max (by rfl) (@pa_cons _ _ _ _ _ pe_int (@pa_cons _ _ _ _ _ (@pe_op _ _ _ _ _ _ _ _ op_sub (@pv _ 3 _ _ (by rfl) (by first | exact Or.inl rfl | exact Or.inr (Or.inl rfl) | exact Or.inr (Or.inr rfl)) (by decide) (by decide)) pe_int) pa_nil (by rfl)) (by rfl)) (by decide) (by decide) (by rfl) (by rfl)) pa_nil (by rfl)) (by rfl)) (by decide) (by rfl) (by rfl))) (@pv _ 3 _ _ (by rfl) (by first | exact Or.inl rfl | exact Or.inr (Or.inl rfl) | exact Or.inr (Or.inr rfl)) (by decide) (by decide))) (by rfl) (by first | exact .inl rfl | exact .inr rfl | assumption)) (@pss_cons _ _ _ _ _ (@ps_set _ _ 9 _ _ _ _ scN.nd rfl (Or.inl rfl) (@pe_call _ _ _ _ _ _ _ _ _ _ _ _ _ _ _ _ UK.ok hr (by rfl) UK.m UK.kp UK.b .nil pass0 (@pa_cons _ _ _ _ _ (@pv _ 0 _ _ (by rfl) (by first | exact Or.inl rfl | exact Or.inr (Or.inl rfl) | exact Or.inr (Or.inr rfl)) (by decide) (by decide)) (@pa_cons _ _ _ _ _ pe_int pa_nil (by rfl)) (by rfl)) (by decide) (by rfl) (by rfl)) (by rfl) (by first | exact .inl rfl | exact .inr rfl | assumption)) (@pss_cons _ _ _ _ _ (@ps_if _ _ _ _ _ _ _ _ (@pw_and _ _ _ _ _ _ _ (@pt_cmpR _ _ _ _ _ _ _ _ op_eq (@pv _ 9 _ _ (by rfl) (by first | exact Or.inl rfl | exact Or.inr (Or.inl rfl) | exact Or.inr (Or.inr rfl)) (by decide) (by decide)) pe_int (nomark _)) (@pw_and1 _ _ _ _ (@pt_cmpR _ _ _ _ _ _ _ _ (op_neE hr.units0) (@pv _ 5 _ _ (by rfl) (by first | exact Or.inl rfl | exact Or.inr (Or.inl rfl) | exact Or.inr (Or.inr rfl)) (by decide) (by decide)) (@pe_lst _ _ _ _ pa_nil) (nomark _)))).pt (@pss_one _ _ _ (@ps_asg _ _ _ _ _ _ (@pe_ix _ _ _ _ _ _ _ ix_list (@pv _ 5 _ _ (by rfl) (by first | exact Or.inl rfl | exact Or.inr (Or.inl rfl) | exact Or.inr (Or.inr rfl)) (by decide) (by decide)) (@pe_un _ _ _ _ _ _ un_neg pe_int) (fun _ _ => rfl)) (@pg_tup _ _ _ _ _ _ rfl (@pgs_cons _ _ _ _ _ (@pg_name _ _ 7 _ scN.nd rfl (Or.inl rfl) (by first | exact .inl rfl | exact .inr rfl | assumption)) (@pgs_cons _ _ _ _ _ (@pg_name _ _ 8 _ scN.nd rfl (Or.inl rfl) (by first | exact .inl rfl | exact .inr rfl | assumption)) pgs_nil (by rfl)) (by rfl)) (by rfl) (by rfl)) (by rfl) (by rfl) (by rfl))) pss_nil) (@pss_cons _ _ _ _ _ (@ps_if _ _ _ _ _ _ _ _ (@pt_cmpR _ _ _ _ _ _ _ _ op_eq (@pv _ 9 _ _ (by rfl) (by first | exact Or.inl rfl | exact Or.inr (Or.inl rfl) | exact Or.inr (Or.inr rfl)) (by decide) (by decide)) pe_int (nomark _)) (@pss_one _ _ _ (@ps_par _ _ 7 8 _ _ _ _ _ _ _ _ _ _ _ rfl scN.nd rfl rfl (by decide) rfl rfl (@pa_cons _ _ _ _ _ (@pe_op _ _ _ _ _ _ _ _ op_mod (@pv _ 6 _ _ (by rfl) (by first | exact Or.inl rfl | exact Or.inr (Or.inl rfl) | exact Or.inr (Or.inr rfl)) (by decide) (by decide)) (@pv _ 3 _ _ (by rfl) (by first | exact Or.inl rfl | exact Or.inr (Or.inl rfl) | exact Or.inr (Or.inr rfl)) (by decide) (by decide))) (@pa_cons _ _ _ _ _ (@pe_op _ _ _ _ _ _ _ _ op_mod (@pe_op _ _ _ _ _ _ _ _ op_add (@pv _ 6 _ _ (by rfl) (by first | exact Or.inl rfl | exact Or.inr (Or.inl rfl) | exact Or.inr (Or.inr rfl)) (by decide) (by decide)) pe_int) (@pv _ 3 _ _ (by rfl) (by first | exact Or.inl rfl | exact Or.inr (Or.inl rfl) | exact Or.inr (Or.inr rfl)) (by decide) (by decide))) pa_nil (by rfl)) (by rfl)) (by rfl) (by rfl))) pss_nil) (@pss_one _ _ _ (@ps_expr _ _ _ _ (@pe_bm _ _ _ _ _ _ _ _ _ _ _ _ PySem.F.plainAttrs_list PySem.F.slot_list_append PySem.F.type_list_append mt_append (@pv _ 5 _ _ (by rfl) (by first | exact Or.inl rfl | exact Or.inr (Or.inl rfl) | exact Or.inr (Or.inr rfl)) (by decide) (by decide)) (@pa_cons _ _ _ _ _ (@pe_tup _ _ _ _ _ (@pa_cons _ _ _ _ _ (@pv _ 7 _ _ (by rfl) (by first | exact Or.inl rfl | exact Or.inr (Or.inl rfl) | exact Or.inr (Or.inr rfl)) (by decide) (by decide)) (@pa_cons _ _ _ _ _ (@pv _ 8 _ _ (by rfl) (by first | exact Or.inl rfl | exact Or.inr (Or.inl rfl) | exact Or.inr (Or.inr rfl)) (by decide) (by decide)) pa_nil (by rfl)) (by rfl))) pa_nil (by rfl)) (by rfl) (by rfl) (by rfl) (by rfl) (by rfl)) (by rfl)))))))) (by intro _; rfl)) (@pss_cons _ _ _ _ _ (@ps_par _ _ 10 11 _ _ _ _ _ _ _ _ _ _ _ rfl scN.nd rfl rfl (by decide) rfl rfl (@pa_cons _ _ _ _ _ (@pe_lstRng _ _ _ _ _ _ _ rfl (by rfl) G.list (by rfl) G.range (@pa_cons _ _ _ _ _ (@pv _ 3 _ _ (by rfl) (by first | exact Or.inl rfl | exact Or.inr (Or.inl rfl) | exact Or.inr (Or.inr rfl)) (by decide) (by decide)) pa_nil (by rfl)) (by rfl) (by rfl)) (@pa_cons _ _ _ _ _ (@pe_lst _ _ _ _ pa_nil) pa_nil (by rfl)) (by rfl)) (by rfl) (by rfl)) (@pss_cons _ _ _ _ _ (@ps_set _ _ 12 _ _ _ _ scN.nd rfl (Or.inl rfl) (@pe_cmpR _ _ _ _ _ _ _ _ op_eq (@pe_call _ _ _ _ _ _ _ _ _ _ _ _ _ _ _ _ UK.ok hr (by rfl) UK.m UK.kp UK.b .nil pass0 (@pa_cons _ _ _ _ _ (@pv _ 0 _ _ (by rfl) (by first | exact Or.inl rfl | exact Or.inr (Or.inl rfl) | exact Or.inr (Or.inr rfl)) (by decide) (by decide)) (@pa_cons _ _ _ _ _ pe_int pa_nil (by rfl)) (by rfl)) (by decide) (by rfl) (by rfl)) pe_int (nomark _)) (by rfl) (by first | exact .inl rfl | exact .inr rfl | assumption)) (@pss_cons _ _ _ _ _ (@ps_for _ _ _ _ _ _ _ _ PassesOwn.never rfl (@pi_range1 _ _ _ _ _ _ rfl G.range (@pa_cons _ _ _ _ _ (@pv _ 3 _ _ (by rfl) (by first | exact Or.inl rfl | exact Or.inr (Or.inl rfl) | exact Or.inr (Or.inr rfl)) (by decide) (by decide)) pa_nil (by rfl)) (by rfl)) (@pg_name _ _ 6 _ scN.nd rfl (Or.inl rfl) (by first | exact .inl rfl | exact .inr rfl | assumption)) (@pss_one _ _ _ (@ps_expr _ _ _ _ (@pe_bm _ _ _ _ _ _ _ _ _ _ _ _ PySem.F.plainAttrs_list PySem.F.slot_list_append PySem.F.type_list_append mt_append (@pv _ 11 _ _ (by rfl) (by first | exact Or.inl rfl | exact Or.inr (Or.inl rfl) | exact Or.inr (Or.inr rfl)) (by decide) (by decide)) (@pa_cons _ _ _ _ _ (@pe_bm _ _ _ _ _ _ _ _ _ _ _ _ PySem.F.plainAttrs_list PySem.F.slot_list_pop PySem.F.type_list_pop mt_popAt (@pv _ 10 _ _ (by rfl) (by first | exact Or.inl rfl | exact Or.inr (Or.inl rfl) | exact Or.inr (Or.inr rfl)) (by decide) (by decide)) (@pa_cons _ _ _ _ _ (@pe_op _ _ _ _ _ _ _ _ op_mul (@pe_call _ _ _ _ _ _ _ _ _ _ _ _ _ _ _ _ UK.ok hr (by rfl) UK.m UK.kp UK.b .nil pass0 (@pa_cons _ _ _ _ _ (@pv _ 0 _ _ (by rfl) (by first | exact Or.inl rfl | exact Or.inr (Or.inl rfl) | exact Or.inr (Or.inr rfl)) (by decide) (by decide)) (@pa_cons _ _ _ _ _ (@pe_callB _ _ _ _ _ _ _ _ _ call_len_seq (by rfl) G.len PySem.boot_len (@pa_cons _ _ _ _ _ (@pv _ 10 _ _ (by rfl) (by first | exact Or.inl rfl | exact Or.inr (Or.inl rfl) | exact Or.inr (Or.inr rfl)) (by decide) (by decide)) pa_nil (by rfl)) (by decide) (by decide) (by rfl) (by rfl)) pa_nil (by rfl)) (by rfl)) (by decide) (by rfl) (by rfl)) (@pe_callTy _ _ _ _ _ _ _ _ _ call_int1 (by rfl) G.int (by rfl) (@pa_cons _ _ _ _ _ (@pv _ 12 _ _ (by rfl) (by first | exact Or.inl rfl | exact Or.inr (Or.inl rfl) | exact Or.inr (Or.inr rfl)) (by decide) (by decide)) pa_nil (by rfl)) (by decide) (by decide) (by rfl) (by rfl))) pa_nil (by rfl)) (by rfl) (by rfl) (by rfl) (by rfl) (by rfl)) pa_nil (by rfl)) (by rfl) (by rfl) (by rfl) (by rfl) (by rfl)) (by rfl))) (by intro _; rfl)) (@pss_one _ _ _ (@ps_ret _ _ _ _ (@pe_tup _ _ _ _ _ (@pa_cons _ _ _ _ _ (@pv _ 3 _ _ (by rfl) (by first | exact Or.inl rfl | exact Or.inr (Or.inl rfl) | exact Or.inr (Or.inr rfl)) (by decide) (by decide)) (@pa_cons _ _ _ _ _ (@pe_callTy _ _ _ _ _ _ _ _ _ call_tuple_of (by rfl) G.tuple (by rfl) (@pa_cons _ _ _ _ _ (@pv _ 5 _ _ (by rfl) (by first | exact Or.inl rfl | exact Or.inr (Or.inl rfl) | exact Or.inr (Or.inr rfl)) (by decide) (by decide)) pa_nil (by rfl)) (by decide) (by decide) (by rfl) (by rfl)) (@pa_cons _ _ _ _ _ (@pe_callTy _ _ _ _ _ _ _ _ _ call_tuple_of (by rfl) G.tuple (by rfl) (@pa_cons _ _ _ _ _ (@pv _ 11 _ _ (by rfl) (by first | exact Or.inl rfl | exact Or.inr (Or.inl rfl) | exact Or.inr (Or.inr rfl)) (by decide) (by decide)) pa_nil (by rfl)) (by decide) (by decide) (by rfl) (by rfl)) pa_nil (by rfl)) (by rfl)) (by rfl)))))))))))), ?_⟩
  -- how many lanes
  refine ⟨_, rfl, (by show 10 ≤ sizeLine; decide), fun p hp => ?_⟩
  have np := S.ne hp
  refine ⟨_, rfl, l, 10, n, rfl, by decide, by decide, S.upd np, by omega, fun v H1 v0 v1 S1 B1 => ?_⟩
  obtain ⟨v, rfl⟩ := Int.eq_ofNat_of_zero_le v0
  obtain ⟨lanes, lmem, hat⟩ := pick_at (xs := [1, 2, 2, 3, 4, 4, 5, 6, 8, 16]) (v := v) (by show v < 10; omega)
  have lb : ∀ n ∈ [1, 2, 2, 3, 4, 4, 5, 6, 8, 16], 1 ≤ n ∧ n ≤ 16 := by decide
  obtain ⟨l1, l16⟩ := lb lanes lmem
  have B1' : But l H H1 := (But.of (same_new hp _)).trans B1
  refine ⟨p, _, _, _, rfl, rfl, SqL.of (B1 p _ upd_same np.symm), hat, _, _, rfl, ?_⟩
  rw [show (if (lanes : Int) < 16 then (lanes : Int) else 16) = lanes from by split <;> omega]
  -- how many forks
  refine ⟨_, rfl, (by show 9 ≤ sizeLine; decide), fun p2 hp2 => ?_⟩
  have np2 := S1.ne hp2
  refine ⟨_, rfl, l, 9, n + 1, rfl, by decide, by decide, S1.upd np2, by omega, fun v2 H2 v20 v21 S2 B2 => ?_⟩
  obtain ⟨v2, rfl⟩ := Int.eq_ofNat_of_zero_le v20
  obtain ⟨fm, fmem, hat2⟩ := pick_at (xs := [0, 1, 2, 3, 5, 8, 12, 30, 128]) (v := v2) (by show v2 < 9; omega)
  have fb : ∀ n ∈ [0, 1, 2, 3, 5, 8, 12, 30, 128], n ≤ 128 := by decide
  have fb := fb fm fmem
  refine ⟨p2, _, _, _, rfl, rfl, SqL.of (B2 p2 _ upd_same np2.symm), hat2, _, _, rfl, ?_⟩
  rw [show (if (fm : Int) < 128 then (fm : Int) else 128) = fm from by split <;> omega]
  refine ⟨_, rfl, _, _, rfl, rfl, .inr ⟨_, rfl, _, _, rfl, rfl, .inl ⟨by omega, by omega⟩, ?_⟩⟩
  have cb : ((fm : Int) * (if decide ((1 : Int) < lanes) = true then 1 else 0)) = ((if 1 < lanes then fm else 0 : Nat) : Int) := by
    by_cases z : 1 < lanes
    · rw [if_pos (decide_eq_true (by omega)), if_pos z]; omega
    · rw [if_neg (by rw [decide_eq_false (by omega)]; exact Bool.false_ne_true), if_neg z]; omega
  have cl : (if 1 < lanes then fm else 0) ≤ 128 := by split <;> omega
  dsimp only
  rw [cb]
  generalize hcnt : (if 1 < lanes then fm else 0) = cnt at cl
  have B2' : But l H H2 := (B1'.new hp2).trans B2
  -- the forks
  refine ⟨(by show 0 ≤ sizeLine; decide), fun lf hlf => ?_⟩
  have nlf := S2.ne hlf
  have flf := B2'.frs hlf
  refine ⟨_, rfl, _, rfl, by omega, by omega, ?_⟩
  refine for_range (lo := 0) (n := ((cnt : Nat) : Int).toNat) (fun i σ H4 => (∃ w6 w7 w8 w9 w10 w11 w12, σ = [some (.ref l), some (.int 16), some (.int 128), some (.int lanes), some (.int cnt), some (.ref lf), w6, w7, w8, w9, w10, w11, w12]) ∧ StAt H4 l (n + 2 + 3 * i) ∧ But l H H4 ∧ ∃ ps fs, H4 lf = some (.lst ps) ∧ Prs H4 ps fs ∧ fs.length = i ∧ ∀ f ∈ fs, f.1 < lanes ∧ f.2 < lanes ∧ f.1 ≠ f.2)
    ⟨⟨_, _, _, _, _, _, _, rfl⟩, S2.upd nlf, B2'.upd flf, [], [], upd_same, trivial, rfl, fun f hf => by simp at hf⟩ ?_ ?_
  · rintro i σ H4 hi ⟨⟨w6, w7, w8, w9, w10, w11, w12, rfl⟩, S4, B4, ps, fs, h4, p4, len, fok⟩
    have ic : i < cnt := by omega
    have l2 : 1 < lanes := by
      by_cases z : 1 < lanes
      · exact z
      · rw [if_neg z] at hcnt; omega
    refine ⟨_, rfl, _, rfl, l, lanes, _, rfl, by omega, by omega, S4, by omega, fun one H5 o0 o1 S5 B5 => ?_⟩
    obtain ⟨one, rfl⟩ := Int.eq_ofNat_of_zero_le o0
    have mx : (if ((lanes : Int) - 1) > 1 then ((lanes : Int) - 1) else 1) = (lanes : Int) - 1 := by split <;> omega
    refine ⟨_, rfl, _, _, rfl, rfl, _, rfl, _, rfl, _, _, rfl, rfl, _, _, rfl, l, _, _, rfl, by rw [mx]; omega, by rw [mx]; omega, S5, by omega, fun d H6 d0 d1 S6 B6 => ?_⟩
    obtain ⟨d, rfl⟩ := Int.eq_ofNat_of_zero_le d0
    rw [mx] at d1
    refine ⟨_, _, rfl, rfl, _, rfl, _, _, rfl, rfl, by omega, ?_⟩
    obtain ⟨ok1, ok2⟩ := other_ok (one := one) (d := d) (lanes := lanes) (by omega) (by omega)
    have ec : ((one : Int) + 1 + d) % lanes = (((one + 1 + d) % lanes : Nat) : Int) := by rw [Int.natCast_emod, Int.natCast_add, Int.natCast_add]; rfl
    dsimp only
    rw [ec]
    generalize (one + 1 + d) % lanes = oth at *
    refine ⟨_, rfl, l, 5, _, rfl, by decide, by decide, S6, by omega, fun way H7 w0 w1 S7 B7 => ?_⟩
    obtain ⟨way, rfl⟩ := Int.eq_ofNat_of_zero_le w0
    have B7' : But l H H7 := ((B4.trans B5).trans B6).trans B7
    have T7 : Tups H4 H7 := ((tups_but B5 S4).trans (tups_but B6 S5)).trans (tups_but B7 S6)
    have h7 : H7 lf = some (.lst ps) := B7 lf _ (B6 lf _ (B5 lf _ h4 nlf.symm) nlf.symm) nlf.symm
    have p7 := p4.tups T7
    have pl := p4.len
    have szp : ps.length < sizeLine := by rw [pl, len]; exact Nat.lt_of_lt_of_le (show i < 1000 by omega) (by decide)
    have S7' : StAt H7 l (n + 2 + 3 * (i + 1)) := S7.mono (by omega)
    -- the fork goes behind the others
    have fin : ∀ (a b : Nat) (H8 : Hp) (t : Addr), Same H7 H8 → (a < lanes ∧ b < lanes ∧ a ≠ b) → H8 t = none →
        L2.upd H8 t (.tup [.int a, .int b]) lf = some (.lst ps) ∧ (StAt (L2.upd (L2.upd H8 t (.tup [.int a, .int b])) lf (.lst (ps ++ [.ref t]))) l (n + 2 + 3 * (i + 1)) ∧ But l H (L2.upd (L2.upd H8 t (.tup [.int a, .int b])) lf (.lst (ps ++ [.ref t]))) ∧ ∃ ps2 fs2, (L2.upd (L2.upd H8 t (.tup [.int a, .int b])) lf (.lst (ps ++ [.ref t]))) lf = some (.lst ps2) ∧ Prs (L2.upd (L2.upd H8 t (.tup [.int a, .int b])) lf (.lst (ps ++ [.ref t]))) ps2 fs2 ∧ fs2.length = i + 1 ∧ ∀ f ∈ fs2, f.1 < lanes ∧ f.2 < lanes ∧ f.1 ≠ f.2) := by
      intro a b H8 t s8 ok8 ht
      have s9 := s8.trans (same_new ht (.tup [.int a, .int b]))
      have h9 := s9 _ _ h7
      refine ⟨h9, (S7'.keep s9).upd nlf, (B7'.trans (But.of s9)).upd flf, ps ++ [.ref t], fs ++ [(a, b)], upd_same, ((p7.tups (Tups.of s9)).tups (Tups.lst h9)).add (Tups.lst h9 _ _ upd_same), by simp [len], fun f hf => ?_⟩
      rcases List.mem_append.mp hf with z | z
      · exact fok f z
      · rw [List.mem_singleton.mp z]; exact ok8
    refine ⟨_, rfl, rfl, _, rfl, ?_⟩
    by_cases e0 : way = 0
    · subst e0
      rw [show decide (V.int ((0 : Nat) : Int) = V.int 0) = true from decide_eq_true rfl]
      refine iteT ⟨_, rfl, (by show 0 ≤ sizeLine; decide), fun e he => ?_⟩
      have s8 := same_new he (.lst [])
      have h8 := s8 _ _ h7
      refine ⟨lf, e, ps, rfl, rfl, SqL.of h8, SqL.of upd_same, _, rfl, ?_⟩
      by_cases hps : ps = []
      · rw [show (!ps.isEmpty) = false by rw [hps]; rfl]
        refine iteF ⟨_, rfl, rfl, _, rfl, ?_⟩
        rw [show decide (V.int ((0 : Nat) : Int) = V.int 1) = false from decide_eq_false (by intro z; exact absurd (V.int.inj z) (by decide))]
        refine iteF ⟨_, rfl, .inl ⟨rfl, _, SqL.of h8⟩, _, rfl, _, rfl, (by show 2 ≤ sizeLine; decide), fun t ht => ?_⟩
        obtain ⟨g1, g2⟩ := fin one oth _ t s8 ⟨by omega, ok1, ok2⟩ ht
        exact ⟨lf, _, _, rfl, rfl, g1, szp, ⟨_, _, _, _, _, _, _, rfl⟩, g2⟩
      · obtain ⟨qs0, a, gs, fk, eps, efs, hfa⟩ := (p7.tups (Tups.of s8)).last hps
        have okf := fok fk (by rw [efs]; simp)
        rw [show (!ps.isEmpty) = true by rw [eps]; simp]
        refine iteT ⟨_, rfl, _, rfl, lf, _, _, _, rfl, rfl, SqL.of h8, (by rw [eps]; exact atI_last _ _), a, _, rfl, SqT.of hfa, rfl, _, _, rfl, _, _, rfl, rfl, ?_⟩
        refine ⟨_, rfl, rfl, _, rfl, ?_⟩
        rw [show decide (V.int ((0 : Nat) : Int) = V.int 1) = false from decide_eq_false (by intro z; exact absurd (V.int.inj z) (by decide))]
        refine iteF ⟨_, rfl, .inl ⟨rfl, _, SqL.of h8⟩, _, rfl, _, rfl, (by show 2 ≤ sizeLine; decide), fun t ht => ?_⟩
        obtain ⟨g1, g2⟩ := fin fk.1 fk.2 _ t s8 okf ht
        exact ⟨lf, _, _, rfl, rfl, g1, szp, ⟨_, _, _, _, _, _, _, rfl⟩, g2⟩
    rw [show decide (V.int (way : Int) = V.int 0) = false from decide_eq_false (by intro z; exact e0 (by have := V.int.inj z; omega))]
    refine iteF (iteF ⟨_, rfl, rfl, _, rfl, ?_⟩)
    by_cases e1 : way = 1
    · subst e1
      rw [show decide (V.int ((1 : Nat) : Int) = V.int 1) = true from decide_eq_true rfl]
      refine iteT ⟨_, rfl, _, rfl, _, _, rfl, rfl, by omega, _, rfl, _, _, rfl, rfl, _, rfl, _, _, rfl, rfl, by omega, _, _, rfl, ?_⟩
      dsimp only
      rw [Int.zero_add]
      have ea : ((i : Int) % lanes) = ((i % lanes : Nat) : Int) := (Int.natCast_emod _ _).symm
      have eb : (((i : Int) + 1) % lanes) = (((i + 1) % lanes : Nat) : Int) := by rw [Int.natCast_emod, Int.natCast_add]; rfl
      rw [ea, eb]
      refine ⟨_, rfl, .inl ⟨rfl, _, SqL.of h7⟩, _, rfl, _, rfl, (by show 2 ≤ sizeLine; decide), fun t ht => ?_⟩
      have nei : i % lanes ≠ (i + 1) % lanes := by
        have h1 := Nat.mod_lt i (show 0 < lanes by omega)
        rw [← Nat.mod_add_mod]
        have := (other_ok (one := i % lanes) (d := 0) (lanes := lanes) h1 (by omega)).2
        simpa using this
      obtain ⟨g1, g2⟩ := fin (i % lanes) ((i + 1) % lanes) _ t (Same.refl _) ⟨Nat.mod_lt _ (by omega), Nat.mod_lt _ (by omega), nei⟩ ht
      exact ⟨lf, _, _, rfl, rfl, g1, szp, ⟨_, _, _, _, _, _, _, rfl⟩, g2⟩
    rw [show decide (V.int (way : Int) = V.int 1) = false from decide_eq_false (by intro z; exact e1 (by have := V.int.inj z; omega))]
    refine iteF ⟨_, rfl, .inl ⟨rfl, _, SqL.of h7⟩, _, rfl, _, rfl, (by show 2 ≤ sizeLine; decide), fun t ht => ?_⟩
    obtain ⟨g1, g2⟩ := fin one oth _ t (Same.refl _) ⟨by omega, ok1, ok2⟩ ht
    exact ⟨lf, _, _, rfl, rfl, g1, szp, ⟨_, _, _, _, _, _, _, rfl⟩, g2⟩
  rintro σ H4 ⟨⟨w6, w7, w8, w9, w10, w11, w12, rfl⟩, S4, B4, ps, fs, h4, p4, len, fok⟩
  -- the ends
  refine ⟨_, rfl, lanes, rfl, by omega, fun ll hll => ?_⟩
  have nll := S4.ne hll
  have sl := same_new hll (if true = true then HO.lst (upTo lanes) else .tup (upTo lanes))
  refine ⟨(by show 0 ≤ sizeLine; decide), fun le hle => ⟨_, _, rfl, ?_⟩⟩
  have sle := same_new hle (.lst [])
  have nle := (S4.keep sl).ne hle
  have nel : ll ≠ le := ne_of_none upd_same hle
  have nfl : lf ≠ ll := ne_of_none h4 hll
  have nfe : lf ≠ le := ne_of_none (sl _ _ h4) hle
  have B5 : But l H _ := B4.trans (But.of (sl.trans sle))
  have fll := B4.frs hll
  have fle := (B4.new hll).frs hle
  refine ⟨_, rfl, l, 2, _, rfl, by decide, by decide, S4.keep (sl.trans sle), by omega, fun v3 H6 v30 v31 S6 B6 => ?_⟩
  refine ⟨rfl, _, rfl, lanes, rfl, by omega, by omega, ?_⟩
  have T6 : Tups H4 H6 := (Tups.of (sl.trans sle)).trans (tups_but B6 (S4.keep (sl.trans sle)))
  have hL6 : H6 ll = some (.lst (nums (List.range lanes))) := B6 ll _ (sle _ _ upd_same) nll.symm
  have hE6 : H6 le = some (.lst []) := B6 le _ upd_same nle.symm
  have hF6 : H6 lf = some (.lst ps) := B6 lf _ (sle _ _ (sl _ _ h4)) nlf.symm
  generalize hsh : decide (V.int v3 = V.int 0) = sh
  refine for_range (lo := 0) (n := ((lanes : Nat) : Int).toNat) (fun i σ H7 => (∃ w6, σ = [some (.ref l), some (.int 16), some (.int 128), some (.int lanes), some (.int cnt), some (.ref lf), w6, w7, w8, w9, some (.ref ll), some (.ref le), some (.bl sh)]) ∧ StAt H7 l (n + 2 + 3 * cnt + 1 + i) ∧ But l H H7 ∧ Tups H6 H7 ∧ H7 lf = some (.lst ps) ∧ ∃ es ls : List Nat, H7 le = some (.lst (nums es)) ∧ H7 ll = some (.lst (nums ls)) ∧ es.length = i ∧ (es ++ ls).Perm (List.range lanes))
    ⟨⟨_, rfl⟩, S6.mono (by omega), B5.trans B6, Tups.refl _, hF6, [], List.range lanes, hE6, hL6, rfl, .refl _⟩ ?_ ?_
  · rintro i σ H7 hi ⟨⟨w6, rfl⟩, S7, B7, T7, hF7, es, ls, hE7, hL7, el, pe⟩
    have il : i < lanes := by omega
    have lsl : es.length + ls.length = lanes := by have := pe.length_eq; rwa [List.length_append, List.length_range] at this
    refine ⟨_, rfl, .inl ⟨rfl, _, SqL.of hE7⟩, _, rfl, .inl ⟨rfl, _, SqL.of hL7⟩, _, rfl, _, rfl, ll, _, rfl, .inl (SqL.of hL7), l, _, _, rfl, by rw [nums_len]; omega, by rw [nums_len]; omega, S7, by omega, fun v4 H8 v40 v41 S8 B8 => ?_⟩
    obtain ⟨v4, rfl⟩ := Int.eq_ofNat_of_zero_le v40
    rw [nums_len] at v41
    refine ⟨_, rfl, .inr ⟨sh, rfl, _, _, rfl, rfl, .inl ⟨by omega, by omega⟩, ?_⟩⟩
    have ei : ((v4 : Int) * (if sh = true then 1 else 0)) = ((if sh = true then v4 else 0 : Nat) : Int) := by cases sh <;> simp
    dsimp only
    rw [ei]
    generalize hkk : (if sh = true then v4 else 0) = kk
    have kl : kk < ls.length := by rw [← hkk]; split <;> omega
    have hL8 := B8 ll _ hL7 nll.symm
    have hE8 := B8 le _ hE7 nle.symm
    have hF8 := B8 lf _ hF7 nlf.symm
    refine ⟨ll, _, _, kk, .int ls[kk], rfl, rfl, hL8, by omega, by omega, ?_, ?_, ?_⟩
    · have := (ixN_seq (ix_at (xs := nums ls) (i := kk) (by rw [nums_len]; exact kl))).1; exact this
    · unfold nums; rw [List.getElem?_map, List.getElem?_eq_getElem kl]; rfl
    have T8 := (T7.trans (tups_but B8 S7)).trans (Tups.lst (ys := (nums ls).eraseIdx kk) hL8)
    have hE9 : L2.upd H8 ll (.lst ((nums ls).eraseIdx kk)) le = some (.lst (nums es)) := by rw [upd_ne nel.symm]; exact hE8
    refine ⟨le, _, _, rfl, rfl, hE9, by rw [nums_len, el]; exact Nat.lt_of_lt_of_le (show i < 1000 by omega) (by decide), ⟨_, rfl⟩, ((S8.upd nll).upd nle).mono (by omega), ((B7.trans B8).upd fll).upd fle, T8.trans (Tups.lst hE9), ?_, es ++ [ls[kk]], ls.eraseIdx kk, ?_, ?_, by simp [el], ?_⟩
    · rw [upd_ne nfe, upd_ne nfl]; exact hF8
    · rw [upd_same]; unfold nums; rw [List.map_append]; rfl
    · rw [upd_ne nel, upd_same, nums_erase]
    · rw [List.append_assoc]
      exact ((erase_perm kl).append_left es).trans pe
  rintro σ H7 ⟨⟨w6, rfl⟩, S7, B7, T7, hF7, es, ls, hE7, hL7, el, pe⟩
  have tn : ((lanes : Nat) : Int).toNat = lanes := by omega
  have tc : ((cnt : Nat) : Int).toNat = cnt := by omega
  rw [tn] at S7 el
  rw [tc] at len
  have l0 : ls = [] := by
    have := pe.length_eq
    rw [List.length_append, List.length_range] at this
    exact List.length_eq_zero_iff.mp (by omega)
  rw [l0, List.append_nil] at pe
  have p7 := (p4.tups T6).tups T7
  refine ⟨_, rfl, _, rfl, lf, _, rfl, .inl ⟨SqL.of hF7, fun fr hfr => ?_⟩⟩
  have s1 := same_new hfr (.tup ps)
  refine ⟨_, rfl, le, _, rfl, .inl ⟨SqL.of (s1 _ _ hE7), fun er her => ?_⟩⟩
  have s2 := same_new her (.tup (nums es))
  refine ⟨(by show 3 ≤ sizeLine; decide), fun r hr' => ?_⟩
  have s3 := same_new hr' (.tup [.int lanes, .ref fr, .ref er])
  have s123 := (s1.trans s2).trans s3
  exact k r fr er ps ⟨lanes, fs, es⟩ _ ⟨l1, l16, by show fs.length ≤ 128; omega, fok, pe⟩ ⟨upd_same, s3 _ _ (s2 _ _ upd_same), p7.tups (Tups.of s123), s3 _ _ upd_same⟩ ((S7.keep s123).mono (by omega)) (B7.trans (But.of s123))
end
end K01
end
section
set_option maxHeartbeats 4000001
namespace K01
open PySem L2 Own Bn
abbrev sWhole : Stmt := top 1
abbrev sBelow : Stmt := top 2
abbrev sIsRow : Stmt := top 3
def spWhole (K : PySem.W.Frag) : Sp := fun vs H Q _ => ∃ x, vs = [x] ∧ AnyT K H x ∧ Q (.bl (wholeV x)) H
def spBelow (K : PySem.W.Frag) : Sp := fun vs H Q _ => ∃ x b, vs = [x, .int b] ∧ AnyT K H x ∧ Q (.bl (belowV b x)) H
def spIsRow (K : PySem.W.Frag) : Sp := fun vs H Q _ => ∃ x m, vs = [x, .int m] ∧ AnyT K H x ∧ Q (.bl (rowV H m x)) H
section
variable {P : Program} {w : World} {K : PySem.W.Frag} {mg : Str → Option Value} {base : Heap}
theorem scKw : FnScope ["thing"] ["thing"] (defScope sWhole) := ⟨rfl, rfl, rfl, by decide +kernel, rfl, by decide +kernel, by decide +kernel⟩
theorem ok_whole {f : Addr} {fd : FuncData} (F : Fun K "is_whole" "is_whole" sWhole f fd) (G : Mgs mg) : FnOk P w K mg base CX0 1 f fd ["thing"] (spWhole K) := by
  refine F.ok scKw (fun vs H Q E h => ?_) (fun cdv A outer s H vs Q E hr h => ?_)
  · obtain ⟨x, rfl, _⟩ := h
    rfl
  obtain ⟨x, rfl, ax, k⟩ := h
  refine ⟨_, (@pss_one _ _ _ (@ps_ret _ _ _ _ (@pe_and _ _ _ _ _ _ _ (@pe_callB _ _ _ _ _ _ _ _ _ call_isi (by rfl) G.isi (by rfl) (@pa_cons _ _ _ _ _ (@pv _ 0 _ _ (by rfl) (by first | exact Or.inl rfl | exact Or.inr (Or.inl rfl) | exact Or.inr (Or.inr rfl)) (by decide) (by decide)) (@pa_cons _ _ _ _ _ (@pe_bltn _ _ (.ty "int") (.type "int") _ (by rfl) G.int (by rfl) rfl (by decide) (by decide)) pa_nil (by rfl)) (by rfl)) (by decide) (by decide) (by rfl) (by rfl)) (@pe_one _ _ _ _ _ (@pe_not _ _ _ _ (@pe_callB _ _ _ _ _ _ _ _ _ call_isi (by rfl) G.isi (by rfl) (@pa_cons _ _ _ _ _ (@pv _ 0 _ _ (by rfl) (by first | exact Or.inl rfl | exact Or.inr (Or.inl rfl) | exact Or.inr (Or.inr rfl)) (by decide) (by decide)) (@pa_cons _ _ _ _ _ (@pe_bltn _ _ (.ty "bool") (.type "bool") _ (by rfl) G.bool (by rfl) rfl (by decide) (by decide)) pa_nil (by rfl)) (by rfl)) (by decide) (by decide) (by rfl) (by rfl))))))), ?_⟩
  obtain ⟨t, I⟩ := ax.isi
  refine ⟨_, rfl, _, "int", _, _, rfl, I.ty, I.int, _, rfl, ?_⟩
  cases x with
  | int i => exact iteT ⟨_, rfl, _, "bool", _, _, rfl, I.ty, I.bool, _, rfl, k⟩
  | bl b => exact iteT ⟨_, rfl, _, "bool", _, _, rfl, I.ty, I.bool, _, rfl, k⟩
  | non => exact iteF k
  | str z => exact iteF k
  | flt z => exact iteF k
  | byt z => exact iteF k
  | ref z => exact iteF k
  | ty z => exact iteF k
theorem scKb : FnScope ["thing", "bound"] ["thing", "bound"] (defScope sBelow) := ⟨rfl, rfl, rfl, by decide +kernel, rfl, by decide +kernel, by decide +kernel⟩
theorem ok_below {f fW : Addr} {fd dW : FuncData} (F : Fun K "is_below" "is_below" sBelow f fd) (G : Mgs mg) (UW : Use P w K mg base "is_whole" ["thing"] 1 (spWhole K) fW dW) : FnOk P w K mg base CX0 2 f fd ["thing", "bound"] (spBelow K) := by
  refine F.ok scKb (fun vs H Q E h => ?_) (fun cdv A outer s H vs Q E hr h => ?_)
  · obtain ⟨x, b, rfl, _⟩ := h
    rfl
  obtain ⟨x, b, rfl, ax, k⟩ := h
  refine ⟨_, (@pss_one _ _ _ (@ps_ret _ _ _ _ (@pe_and _ _ _ _ _ _ _ (@pe_call _ _ _ _ _ _ _ _ _ _ _ _ _ _ _ _ UW.ok hr (by rfl) UW.m UW.kp UW.b .nil pass0 (@pa_cons _ _ _ _ _ (@pv _ 0 _ _ (by rfl) (by first | exact Or.inl rfl | exact Or.inr (Or.inl rfl) | exact Or.inr (Or.inr rfl)) (by decide) (by decide)) pa_nil (by rfl)) (by decide) (by rfl) (by rfl)) (@pe_one _ _ _ _ _ (@pe_chain _ _ _ _ _ _ _ _ _ _ _ _ op_le op_lt pe_int (@pv _ 0 _ _ (by rfl) (by first | exact Or.inl rfl | exact Or.inr (Or.inl rfl) | exact Or.inr (Or.inr rfl)) (by decide) (by decide)) (@pv _ 1 _ _ (by rfl) (by first | exact Or.inl rfl | exact Or.inr (Or.inl rfl) | exact Or.inr (Or.inr rfl)) (by decide) (by decide)) (by with_unfolding_all rfl)))))), ?_⟩
  refine ⟨_, rfl, _, rfl, ax, _, rfl, ?_⟩
  cases x with
  | int i =>
    refine iteT ⟨_, rfl, _, _, rfl, rfl, _, rfl, ?_⟩
    have e : belowV b (.int i) = (decide (0 ≤ i) && decide (i < b)) := rfl
    rw [e] at k
    by_cases z : (0 : Int) ≤ i
    · rw [decide_eq_true z] at k ⊢
      exact iteT ⟨_, rfl, _, _, rfl, rfl, k⟩
    · rw [decide_eq_false z] at k ⊢
      exact iteF k
  | bl z => exact iteF k
  | non => exact iteF k
  | str z => exact iteF k
  | flt z => exact iteF k
  | byt z => exact iteF k
  | ref z => exact iteF k
  | ty z => exact iteF k
theorem scKr : FnScope ["thing", "many"] ["thing", "many"] (defScope sIsRow) := ⟨rfl, rfl, rfl, by decide +kernel, rfl, by decide +kernel, by decide +kernel⟩
theorem ok_isrow {f : Addr} {fd : FuncData} (F : Fun K "is_row" "is_row" sIsRow f fd) (G : Mgs mg) : FnOk P w K mg base CX0 1 f fd ["thing", "many"] (spIsRow K) := by
  refine F.ok scKr (fun vs H Q E h => ?_) (fun cdv A outer s H vs Q E hr h => ?_)
  · obtain ⟨x, m, rfl, _⟩ := h
    rfl
  obtain ⟨x, m, rfl, ax, k⟩ := h
  refine ⟨_, (@pss_one _ _ _ (@ps_ret _ _ _ _ (@pe_and _ _ _ _ _ _ _ (@pe_callB _ _ _ _ _ _ _ _ _ call_isi (by rfl) G.isi (by rfl) (@pa_cons _ _ _ _ _ (@pv _ 0 _ _ (by rfl) (by first | exact Or.inl rfl | exact Or.inr (Or.inl rfl) | exact Or.inr (Or.inr rfl)) (by decide) (by decide)) (@pa_cons _ _ _ _ _ (@pe_bltn _ _ (.ty "tuple") (.type "tuple") _ (by rfl) G.tuple (by rfl) rfl (by decide) (by decide)) pa_nil (by rfl)) (by rfl)) (by decide) (by decide) (by rfl) (by rfl)) (@pe_one _ _ _ _ _ (@pe_cmpR _ _ _ _ _ _ _ _ op_eq (@pe_callB _ _ _ _ _ _ _ _ _ call_len_seq (by rfl) G.len PySem.boot_len (@pa_cons _ _ _ _ _ (@pv _ 0 _ _ (by rfl) (by first | exact Or.inl rfl | exact Or.inr (Or.inl rfl) | exact Or.inr (Or.inr rfl)) (by decide) (by decide)) pa_nil (by rfl)) (by decide) (by decide) (by rfl) (by rfl)) (@pv _ 1 _ _ (by rfl) (by first | exact Or.inl rfl | exact Or.inr (Or.inl rfl) | exact Or.inr (Or.inr rfl)) (by decide) (by decide)) (nomark _)))))), ?_⟩
  obtain ⟨t, I⟩ := ax.isi
  refine ⟨_, rfl, _, "tuple", _, _, rfl, I.ty, I.tup, _, rfl, ?_⟩
  cases z : rowOf H x with
  | none =>
    have e : rowV H m x = false := by unfold rowV; rw [z]
    rw [e] at k
    exact iteF k
  | some xs =>
    have e : rowV H m x = decide ((xs.length : Int) = m) := by unfold rowV; rw [z]
    rw [e] at k
    obtain ⟨a, rfl, ha⟩ := rowOf_some z
    exact iteT ⟨_, rfl, a, _, rfl, .inr (SqT.of ha), _, rfl, rfl, by rw [int_dec]; exact k⟩
end
end K01
end
section
set_option maxHeartbeats 4000001
namespace K01
open PySem L2 Own Bn
abbrev sAreBelow : Stmt := top 4
abbrev sIsFork : Stmt := top 10
abbrev sAreForks : Stmt := top 9
abbrev sAllLanes : Stmt := top 11
abbrev sIsNet : Stmt := top 8
def spAreBelow (K : PySem.W.Frag) : Sp := fun vs H Q _ => ∃ x, ∃ many b : Int, vs = [x, .int many, .int b] ∧ Deep K H 1 x ∧ many ≤ 16 ∧ ∀ H', Same H H' → Q (.bl (belowsV H many b x)) H'
def spIsFork (K : PySem.W.Frag) : Sp := fun vs H Q _ => ∃ x, ∃ b : Int, vs = [.int b, x] ∧ Deep K H 1 x ∧ Q (.bl (forkV H b x)) H
def spAreForks (K : PySem.W.Frag) : Sp := fun vs H Q _ => ∃ x, ∃ b : Int, vs = [.int b, x] ∧ Deep K H 2 x ∧ ∀ H', Same H H' → Q (.bl (forksV H b x)) H'
def spAllLanes (K : PySem.W.Frag) : Sp := fun vs H Q _ => ∃ x, ∃ b : Int, vs = [.int b, x] ∧ Deep K H 1 x ∧ 1 ≤ b ∧ b ≤ 16 ∧ ∀ H', Same H H' → Q (.bl (lanesV H b x)) H'
def spIsNet (K : PySem.W.Frag) : Sp := fun vs H Q _ => ∃ x, vs = [x] ∧ Deep K H 3 x ∧ ∀ H', Same H H' → Q (.bl (netV H x)) H'
theorem fork_same {K : PySem.W.Frag} {H H' : Hp} {x : V} {b : Int} (s : Same H H') (a : AnyT K H x) : forkV H' b x = forkV H b x := by unfold forkV; rw [row_same s a]
theorem Deep.same {K : PySem.W.Frag} {H H' : Hp} (s : Same H H') : ∀ {n : Nat} {x : V}, Deep K H n x → Deep K H' n x
  | 0, _, h => AnyT.same s h
  | n + 1, x, h => ⟨AnyT.same s h.1, fun xs e => by
    rw [row_same s h.1] at e
    exact ⟨(h.2 xs e).1, fun y hy => Deep.same s ((h.2 xs e).2 y hy)⟩⟩
section
variable {P : Program} {w : World} {K : PySem.W.Frag} {mg : Str → Option Value} {base : Heap}
theorem scAb : FnScope ["thing", "many", "bound"] ["thing", "many", "bound"] (defScope sAreBelow) := ⟨rfl, rfl, rfl, by decide +kernel, rfl, by decide +kernel, by decide +kernel⟩
theorem ok_arebelow {f fR fB : Addr} {fd dR dB : FuncData} (F : Fun K "are_below" "are_below" sAreBelow f fd) (G : Mgs mg) (UR : Use P w K mg base "is_row" ["thing", "many"] 1 (spIsRow K) fR dR) (UB : Use P w K mg base "is_below" ["thing", "bound"] 2 (spBelow K) fB dB) : FnOk P w K mg base CX0 3 f fd ["thing", "many", "bound"] (spAreBelow K) := by
  refine F.ok scAb (fun vs H Q E h => ?_) (fun cdv A outer s H vs Q E hr h => ?_)
  · obtain ⟨x, many, b, rfl, _⟩ := h
    rfl
  obtain ⟨x, many, b, rfl, dx, m16, k⟩ := h
  have hr1 : Room 1 _ := hr.mono (by decide)
  refine ⟨_, (@pss_one _ _ _ (@ps_ret _ _ _ _ (@pe_and _ _ _ _ _ _ _ (@pe_call _ _ _ _ _ _ _ _ _ _ _ _ _ _ _ _ UR.ok hr1 (by rfl) UR.m UR.kp UR.b .nil pass0 (@pa_cons _ _ _ _ _ (@pv _ 0 _ _ (by rfl) (by first | exact Or.inl rfl | exact Or.inr (Or.inl rfl) | exact Or.inr (Or.inr rfl)) (by decide) (by decide)) (@pa_cons _ _ _ _ _ (@pv _ 1 _ _ (by rfl) (by first | exact Or.inl rfl | exact Or.inr (Or.inl rfl) | exact Or.inr (Or.inr rfl)) (by decide) (by decide)) pa_nil (by rfl)) (by rfl)) (by decide) (by rfl) (by rfl)) (@pe_one _ _ _ _ _ (@pe_callB _ _ _ _ _ _ _ _ _ (call_allB rfl true) (by rfl) G.all (by rfl) (@pa_cons _ _ _ _ _ (@pe_lc _ _ _ _ none _ _ _ _ _ _ ["number", "bound"] [none, some 2] rfl (@pi_tup _ _ _ _ (@pv _ 0 _ _ (by rfl) (by first | exact Or.inl rfl | exact Or.inr (Or.inl rfl) | exact Or.inr (Or.inr rfl)) (by decide) (by decide))) (CapOk.of (by kernel_rfl)) (fun _ _ _ _ _ => (@pg_name _ _ 0 _ (show (["number", "bound"] : List Str).Nodup from by decide +kernel) rfl (Or.inl rfl) (Or.inr rfl))) (fun _ _ _ _ _ => pt_none) (fun _ _ _ _ _ => (@pe_call _ _ _ _ _ _ _ _ _ _ _ _ _ _ _ _ UB.ok hr (by rfl) UB.m UB.kp UB.b .nil pass0 (@pa_cons _ _ _ _ _ (@pv _ 0 _ _ (by rfl) (by first | exact Or.inl rfl | exact Or.inr (Or.inl rfl) | exact Or.inr (Or.inr rfl)) (by decide) (by decide)) (@pa_cons _ _ _ _ _ (@pv _ 1 _ _ (by rfl) (by first | exact Or.inl rfl | exact Or.inr (Or.inl rfl) | exact Or.inr (Or.inr rfl)) (by decide) (by decide)) pa_nil (by rfl)) (by rfl)) (by decide) (by rfl) (by rfl))) (by intro _; rfl)) pa_nil (by rfl)) (by decide) (by decide) (by rfl) (by rfl)))))), ?_⟩
  refine ⟨_, rfl, _, rfl, x, many, rfl, dx.any, _, rfl, ?_⟩
  cases z : rowOf H x with
  | none =>
    have e : rowV H many x = false := by unfold rowV; rw [z]
    have e2 : belowsV H many b x = false := by unfold belowsV; rw [z]
    rw [e]
    rw [e2] at k
    exact iteF (k H (Same.refl H))
  | some xs =>
    have e : rowV H many x = decide ((xs.length : Int) = many) := by unfold rowV; rw [z]
    have e2 : belowsV H many b x = (decide ((xs.length : Int) = many) && xs.all (belowV b)) := by unfold belowsV; rw [z]
    rw [e]
    rw [e2] at k
    obtain ⟨a, rfl, ha⟩ := rowOf_some z
    by_cases lm : (xs.length : Int) = many
    · rw [decide_eq_true lm] at k ⊢
      refine iteT ⟨_, rfl, a, rfl, ⟨_, SqT.of ha⟩, fun l hl => ?_⟩
      refine lc_tup (K := K) (a := a) (xs := xs) (fun i acc σ H2 => (∃ v, σ = [v, some (.int b)]) ∧ Same H H2 ∧ H2 l = some (.lst acc) ∧ acc = ((xs.take i).map (belowV b)).map V.bl) ⟨⟨_, rfl⟩, same_new hl _, upd_same, rfl⟩ (fun i acc σ H2 q => ⟨q.2.2.1, SqT.of (q.2.1 _ _ ha)⟩) ?_ ?_
      · rintro i y acc σ H2 hy ⟨⟨v, rfl⟩, s2, h2, rfl⟩
        have il := (List.getElem?_eq_some_iff.mp hy).1
        refine ⟨_, rfl, _, rfl, y, b, rfl, AnyT.same s2 (((dx.2 xs z).2 y (List.mem_of_getElem? hy))), ?_⟩
        refine ⟨h2, ?_, nx il ⟨⟨_, rfl⟩, fun c o e => ?_, upd_same, ?_⟩⟩
        · rw [List.length_map, List.length_map, List.length_take]; exact Nat.lt_of_le_of_lt (Nat.min_le_left _ _) (Nat.lt_of_lt_of_le (show i < 1000 by omega) (by decide))
        · rw [upd_ne (ne_of_none e hl)]; exact s2 c o e
        · have ye : xs[i] = y := (List.getElem?_eq_some_iff.mp hy).2
          rw [List.take_succ_eq_append_getElem il, List.map_append, List.map_append, ye]; rfl
      · rintro acc σ H2 ⟨⟨v, rfl⟩, s2, h2, rfl⟩
        rw [List.take_length] at h2
        refine ⟨l, xs.map (belowV b), rfl, SqL.of h2, ?_⟩
        rw [List.all_map]
        exact k H2 s2
    · rw [decide_eq_false lm] at k ⊢
      exact iteF (k H (Same.refl H))
theorem scIf : FnScope ["lanes", "thing", "one", "other"] ["lanes", "thing"] (defScope sIsFork) := ⟨rfl, rfl, rfl, by decide +kernel, rfl, by decide +kernel, by decide +kernel⟩
theorem ok_isfork {f fR fB : Addr} {fd dR dB : FuncData} (F : Fun K "is_fork" "is_fork" sIsFork f fd) (G : Mgs mg) (UR : Use P w K mg base "is_row" ["thing", "many"] 1 (spIsRow K) fR dR) (UB : Use P w K mg base "is_below" ["thing", "bound"] 2 (spBelow K) fB dB) : FnOk P w K mg base CX0 3 f fd ["lanes", "thing"] (spIsFork K) := by
  refine F.ok scIf (fun vs H Q E h => ?_) (fun cdv A outer s H vs Q E hr h => ?_)
  · obtain ⟨x, b, rfl, _⟩ := h
    rfl
  obtain ⟨x, b, rfl, dx, k⟩ := h
  have hr1 : Room 1 _ := hr.mono (by decide)
  refine ⟨_, (@pss_cons _ _ _ _ _ (@ps_if _ _ _ _ _ _ _ _ (@pt_not _ _ _ _ (@pt_val _ _ _ (@pe_call _ _ _ _ _ _ _ _ _ _ _ _ _ _ _ _ UR.ok hr1 (by rfl) UR.m UR.kp UR.b .nil pass0 (@pa_cons _ _ _ _ _ (@pv _ 1 _ _ (by rfl) (by first | exact Or.inl rfl | exact Or.inr (Or.inl rfl) | exact Or.inr (Or.inr rfl)) (by decide) (by decide)) (@pa_cons _ _ _ _ _ pe_int pa_nil (by rfl)) (by rfl)) (by decide) (by rfl) (by rfl)) (by intro _; rfl))) (@pss_one _ _ _ (@ps_ret _ _ _ _ pe_bl)) pss_nil) (@pss_cons _ _ _ _ _ (@ps_asg _ _ _ _ _ _ (@pv _ 1 _ _ (by rfl) (by first | exact Or.inl rfl | exact Or.inr (Or.inl rfl) | exact Or.inr (Or.inr rfl)) (by decide) (by decide)) (@pg_tup _ _ _ _ _ _ rfl (@pgs_cons _ _ _ _ _ (@pg_name _ _ 2 _ scIf.nd rfl (Or.inl rfl) (by first | exact .inl rfl | exact .inr rfl | assumption)) (@pgs_cons _ _ _ _ _ (@pg_name _ _ 3 _ scIf.nd rfl (Or.inl rfl) (by first | exact .inl rfl | exact .inr rfl | assumption)) pgs_nil (by rfl)) (by rfl)) (by rfl) (by rfl)) (by rfl) (by rfl) (by rfl)) (@pss_one _ _ _ (@ps_ret _ _ _ _ (@pe_and _ _ _ _ _ _ _ (@pe_call _ _ _ _ _ _ _ _ _ _ _ _ _ _ _ _ UB.ok hr (by rfl) UB.m UB.kp UB.b .nil pass0 (@pa_cons _ _ _ _ _ (@pv _ 2 _ _ (by rfl) (by first | exact Or.inl rfl | exact Or.inr (Or.inl rfl) | exact Or.inr (Or.inr rfl)) (by decide) (by decide)) (@pa_cons _ _ _ _ _ (@pv _ 0 _ _ (by rfl) (by first | exact Or.inl rfl | exact Or.inr (Or.inl rfl) | exact Or.inr (Or.inr rfl)) (by decide) (by decide)) pa_nil (by rfl)) (by rfl)) (by decide) (by rfl) (by rfl)) (@pe_and _ _ _ _ _ _ _ (@pe_call _ _ _ _ _ _ _ _ _ _ _ _ _ _ _ _ UB.ok hr (by rfl) UB.m UB.kp UB.b .nil pass0 (@pa_cons _ _ _ _ _ (@pv _ 3 _ _ (by rfl) (by first | exact Or.inl rfl | exact Or.inr (Or.inl rfl) | exact Or.inr (Or.inr rfl)) (by decide) (by decide)) (@pa_cons _ _ _ _ _ (@pv _ 0 _ _ (by rfl) (by first | exact Or.inl rfl | exact Or.inr (Or.inl rfl) | exact Or.inr (Or.inr rfl)) (by decide) (by decide)) pa_nil (by rfl)) (by rfl)) (by decide) (by rfl) (by rfl)) (@pe_one _ _ _ _ _ (@pe_cmpR _ _ _ _ _ _ _ _ op_ne (@pv _ 2 _ _ (by rfl) (by first | exact Or.inl rfl | exact Or.inr (Or.inl rfl) | exact Or.inr (Or.inr rfl)) (by decide) (by decide)) (@pv _ 3 _ _ (by rfl) (by first | exact Or.inl rfl | exact Or.inr (Or.inl rfl) | exact Or.inr (Or.inr rfl)) (by decide) (by decide)) (nomark _))))))))), ?_⟩
  refine ⟨_, rfl, x, 2, rfl, dx.any, _, rfl, ?_⟩
  cases z : rowOf H x with
  | none =>
    have e : rowV H 2 x = false := by unfold rowV; rw [z]
    have e2 : forkV H b x = false := by unfold forkV; rw [z]
    rw [e]
    rw [e2] at k
    exact iteT k
  | some xs =>
    have e : rowV H 2 x = decide ((xs.length : Int) = 2) := by unfold rowV; rw [z]
    rw [e]
    obtain ⟨a, rfl, ha⟩ := rowOf_some z
    have ay := (dx.2 xs z).2
    match xs, z, ha, ay with
    | [], z, _, _ =>
      have e2 : forkV H b (.ref a) = false := by unfold forkV; rw [z]
      rw [e2] at k
      exact iteT k
    | [_], z, _, _ =>
      have e2 : forkV H b (.ref a) = false := by unfold forkV; rw [z]
      rw [e2] at k
      exact iteT k
    | [y, y2], z, ha, ay =>
      have e2 : forkV H b (.ref a) = (belowV b y && (belowV b y2 && !decide (y = y2))) := by unfold forkV; rw [z]
      rw [e2] at k
      refine iteF ⟨_, rfl, a, _, rfl, SqT.of ha, rfl, _, _, rfl, _, _, rfl, rfl, ?_⟩
      refine ⟨_, rfl, _, rfl, y, b, rfl, ay y (by simp), _, rfl, ?_⟩
      cases q : belowV b y with
      | false => rw [q] at k; exact iteF k
      | true =>
        rw [q] at k
        refine iteT ⟨_, rfl, _, rfl, y2, b, rfl, ay y2 (by simp), _, rfl, ?_⟩
        cases q2 : belowV b y2 with
        | false => rw [q2] at k; exact iteF k
        | true =>
          rw [q2] at k
          refine iteT ?_
          cases y with
          | int i =>
            cases y2 with
            | int j => exact ⟨_, rfl, _, rfl, rfl, k⟩
            | _ => cases q2
          | _ => cases q
    | _ :: _ :: _ :: _, z, _, _ =>
      have e2 : forkV H b (.ref a) = false := by unfold forkV; rw [z]
      rw [e2] at k
      rw [decide_eq_false (by simp only [List.length_cons]; omega)]
      exact iteT k
theorem scAf : FnScope ["lanes", "thing"] ["lanes", "thing"] (defScope sAreForks) := ⟨rfl, rfl, rfl, by decide +kernel, rfl, by decide +kernel, by decide +kernel⟩
theorem ok_areforks {f fF : Addr} {fd dF : FuncData} {tk : Tok} (F : Fun K "are_forks" "are_forks" sAreForks f fd) (G : Mgs mg) (hM : mg "MOST_FORKS" = some (.int 128 tk)) (UF : Use P w K mg base "is_fork" ["lanes", "thing"] 3 (spIsFork K) fF dF) : FnOk P w K mg base CX0 4 f fd ["lanes", "thing"] (spAreForks K) := by
  refine F.ok scAf (fun vs H Q E h => ?_) (fun cdv A outer s H vs Q E hr h => ?_)
  · obtain ⟨x, b, rfl, _⟩ := h
    rfl
  obtain ⟨x, b, rfl, dx, k⟩ := h
  refine ⟨_, (@pss_cons _ _ _ _ _ (@ps_if _ _ _ _ _ _ _ _ (@pw_or _ _ _ _ _ _ _ (@pt_not _ _ _ _ (@pt_val _ _ _ (@pe_callB _ _ _ _ _ _ _ _ _ call_isi (by rfl) G.isi (by rfl) (@pa_cons _ _ _ _ _ (@pv _ 1 _ _ (by rfl) (by first | exact Or.inl rfl | exact Or.inr (Or.inl rfl) | exact Or.inr (Or.inr rfl)) (by decide) (by decide)) (@pa_cons _ _ _ _ _ (@pe_bltn _ _ (.ty "tuple") (.type "tuple") _ (by rfl) G.tuple (by rfl) rfl (by decide) (by decide)) pa_nil (by rfl)) (by rfl)) (by decide) (by decide) (by rfl) (by rfl)) (by intro _; rfl))) (@pw_or1 _ _ _ _ (@pt_cmpR _ _ _ _ _ _ _ _ op_gt (@pe_callB _ _ _ _ _ _ _ _ _ call_len_seq (by rfl) G.len PySem.boot_len (@pa_cons _ _ _ _ _ (@pv _ 1 _ _ (by rfl) (by first | exact Or.inl rfl | exact Or.inr (Or.inl rfl) | exact Or.inr (Or.inr rfl)) (by decide) (by decide)) pa_nil (by rfl)) (by decide) (by decide) (by rfl) (by rfl)) (@pe_glob _ _ (.int 128) _ _ (by rfl) @hM ⟨_, rfl⟩ (by decide)) (nomark _)))).pt (@pss_one _ _ _ (@ps_ret _ _ _ _ pe_bl)) pss_nil) (@pss_one _ _ _ (@ps_ret _ _ _ _ (@pe_callB _ _ _ _ _ _ _ _ _ (call_allB rfl true) (by rfl) G.all (by rfl) (@pa_cons _ _ _ _ _ (@pe_lc _ _ _ _ none _ _ _ _ _ _ ["fork", "lanes"] [none, some 0] rfl (@pi_tup _ _ _ _ (@pv _ 1 _ _ (by rfl) (by first | exact Or.inl rfl | exact Or.inr (Or.inl rfl) | exact Or.inr (Or.inr rfl)) (by decide) (by decide))) (CapOk.of (by kernel_rfl)) (fun _ _ _ _ _ => (@pg_name _ _ 0 _ (show (["fork", "lanes"] : List Str).Nodup from by decide +kernel) rfl (Or.inl rfl) (Or.inr rfl))) (fun _ _ _ _ _ => pt_none) (fun _ _ _ _ _ => (@pe_call _ _ _ _ _ _ _ _ _ _ _ _ _ _ _ _ UF.ok hr (by rfl) UF.m UF.kp UF.b .nil pass0 (@pa_cons _ _ _ _ _ (@pv _ 1 _ _ (by rfl) (by first | exact Or.inl rfl | exact Or.inr (Or.inl rfl) | exact Or.inr (Or.inr rfl)) (by decide) (by decide)) (@pa_cons _ _ _ _ _ (@pv _ 0 _ _ (by rfl) (by first | exact Or.inl rfl | exact Or.inr (Or.inl rfl) | exact Or.inr (Or.inr rfl)) (by decide) (by decide)) pa_nil (by rfl)) (by rfl)) (by decide) (by rfl) (by rfl))) (by intro _; rfl)) pa_nil (by rfl)) (by decide) (by decide) (by rfl) (by rfl))))), ?_⟩
  obtain ⟨t, I⟩ := dx.any.isi
  refine ⟨_, rfl, _, "tuple", _, _, rfl, I.ty, I.tup, _, rfl, ?_⟩
  cases z : rowOf H x with
  | none =>
    have e3 : forksV H b x = false := by unfold forksV; rw [z]
    rw [e3] at k
    exact iteT (iteT (k H (Same.refl H)))
  | some xs =>
    have e3 : forksV H b x = (decide ((xs.length : Int) ≤ 128) && xs.all (forkV H b)) := by unfold forksV; rw [z]
    rw [e3] at k
    obtain ⟨a, rfl, ha⟩ := rowOf_some z
    have ay := (dx.2 xs z).2
    refine iteF ⟨_, rfl, a, _, rfl, .inr (SqT.of ha), _, _, rfl, rfl, _, rfl, ?_⟩
    by_cases big : (xs.length : Int) ≤ 128
    · rw [decide_eq_true big] at k
      rw [decide_eq_false (show ¬ (128 : Int) < xs.length by omega)]
      refine iteF ⟨_, rfl, a, rfl, ⟨_, SqT.of ha⟩, fun l hl => ?_⟩
      refine lc_tup (K := K) (a := a) (xs := xs) (fun i acc σ H2 => (∃ v, σ = [v, some (.int b)]) ∧ Same H H2 ∧ H2 l = some (.lst acc) ∧ acc = ((xs.take i).map (forkV H b)).map V.bl) ⟨⟨_, rfl⟩, same_new hl _, upd_same, rfl⟩ (fun i acc σ H2 q => ⟨q.2.2.1, SqT.of (q.2.1 _ _ ha)⟩) ?_ ?_
      · rintro i y acc σ H2 hy ⟨⟨v, rfl⟩, s2, h2, rfl⟩
        have il := (List.getElem?_eq_some_iff.mp hy).1
        have a2 := ay y (List.mem_of_getElem? hy)
        refine ⟨_, rfl, _, rfl, y, b, rfl, Deep.same s2 a2, ?_⟩
        rw [fork_same s2 a2.any]
        refine ⟨h2, ?_, nx il ⟨⟨_, rfl⟩, fun c o e => ?_, upd_same, ?_⟩⟩
        · rw [List.length_map, List.length_map, List.length_take]; exact Nat.lt_of_le_of_lt (Nat.min_le_left _ _) (Nat.lt_of_lt_of_le (show i < 1000 by omega) (by decide))
        · rw [upd_ne (ne_of_none e hl)]; exact s2 c o e
        · have ye : xs[i] = y := (List.getElem?_eq_some_iff.mp hy).2
          rw [List.take_succ_eq_append_getElem il, List.map_append, List.map_append, ye]; rfl
      · rintro acc σ H2 ⟨⟨v, rfl⟩, s2, h2, rfl⟩
        rw [List.take_length] at h2
        refine ⟨l, xs.map (forkV H b), rfl, SqL.of h2, ?_⟩
        rw [List.all_map]
        exact k H2 s2
    · rw [decide_eq_false big] at k
      rw [decide_eq_true (show (128 : Int) < xs.length by omega)]
      exact iteT (k H (Same.refl H))
theorem ints_below {b : Int} : ∀ {xs : List V}, xs.all (belowV b) = true → ∃ ns : List Int, xs = ns.map V.int ∧ ∀ x ∈ ns, 0 ≤ x ∧ x < b
  | [], _ => ⟨[], rfl, fun x h => by simp at h⟩
  | y :: ys, h => by
    replace h : belowV b y = true ∧ ys.all (belowV b) = true := by simpa using h
    obtain ⟨ns, rfl, hn⟩ := ints_below h.2
    cases y with
    | int i =>
      have hi : decide (0 ≤ i) = true ∧ decide (i < b) = true := by rw [← Bool.and_eq_true]; exact h.1
      exact ⟨i :: ns, rfl, fun x hx => by
        rcases List.mem_cons.mp hx with rfl | z
        · exact ⟨of_decide_eq_true hi.1, of_decide_eq_true hi.2⟩
        · exact hn x z⟩
    | _ => exact absurd h.1 Bool.false_ne_true
theorem in_ints (i : Int) : ∀ ns : List Int, inV (V.int i) (ns.map V.int) = decide (i ∈ ns)
  | [] => by simp [inV]
  | n :: ns => by
    have ih := in_ints i ns
    unfold inV at ih ⊢
    rw [List.map_cons, List.any_cons, ih]
    by_cases e : n = i
    · subst e; simp [eqV]
    · have : (i = n) = False := eq_false (fun z => e z.symm)
      simp [eqV, e, List.mem_cons, this]
theorem scAl : FnScope ["lanes", "thing"] ["lanes", "thing"] (defScope sAllLanes) := ⟨rfl, rfl, rfl, by decide +kernel, rfl, by decide +kernel, by decide +kernel⟩
theorem ok_alllanes {f fN : Addr} {fd dN : FuncData} (F : Fun K "are_all_lanes" "are_all_lanes" sAllLanes f fd) (G : Mgs mg) (UN : Use P w K mg base "are_below" ["thing", "many", "bound"] 3 (spAreBelow K) fN dN) : FnOk P w K mg base CX0 4 f fd ["lanes", "thing"] (spAllLanes K) := by
  refine F.ok scAl (fun vs H Q E h => ?_) (fun cdv A outer s H vs Q E hr h => ?_)
  · obtain ⟨x, b, rfl, _⟩ := h
    rfl
  obtain ⟨x, b, rfl, dx, b1, b16, k⟩ := h
  obtain ⟨n, rfl⟩ : ∃ n : Nat, b = n := ⟨b.toNat, by omega⟩
  refine ⟨_, (@pss_one _ _ _ (@ps_ret _ _ _ _ (@pe_and _ _ _ _ _ _ _ (@pe_call _ _ _ _ _ _ _ _ _ _ _ _ _ _ _ _ UN.ok hr (by rfl) UN.m UN.kp UN.b .nil pass0 (@pa_cons _ _ _ _ _ (@pv _ 1 _ _ (by rfl) (by first | exact Or.inl rfl | exact Or.inr (Or.inl rfl) | exact Or.inr (Or.inr rfl)) (by decide) (by decide)) (@pa_cons _ _ _ _ _ (@pv _ 0 _ _ (by rfl) (by first | exact Or.inl rfl | exact Or.inr (Or.inl rfl) | exact Or.inr (Or.inr rfl)) (by decide) (by decide)) (@pa_cons _ _ _ _ _ (@pv _ 0 _ _ (by rfl) (by first | exact Or.inl rfl | exact Or.inr (Or.inl rfl) | exact Or.inr (Or.inr rfl)) (by decide) (by decide)) pa_nil (by rfl)) (by rfl)) (by rfl)) (by decide) (by rfl) (by rfl)) (@pe_one _ _ _ _ _ (@pe_cmpR _ _ _ _ _ _ _ _ (op_eqLi hr.units0) (@pe_callB _ _ _ _ _ _ _ _ _ (call_sortedB false) (by rfl) G.sorted (by rfl) (@pa_cons _ _ _ _ _ (@pv _ 1 _ _ (by rfl) (by first | exact Or.inl rfl | exact Or.inr (Or.inl rfl) | exact Or.inr (Or.inr rfl)) (by decide) (by decide)) pa_nil (by rfl)) (by decide) (by decide) (by rfl) (by rfl)) (@pe_lstRng _ _ _ _ _ _ _ rfl (by rfl) G.list (by rfl) G.range (@pa_cons _ _ _ _ _ (@pv _ 0 _ _ (by rfl) (by first | exact Or.inl rfl | exact Or.inr (Or.inl rfl) | exact Or.inr (Or.inr rfl)) (by decide) (by decide)) pa_nil (by rfl)) (by rfl) (by rfl)) (nomark _)))))), ?_⟩
  refine ⟨_, rfl, _, rfl, _, rfl, x, _, _, rfl, dx, b16, fun H1 s1 => ⟨_, rfl, ?_⟩⟩
  cases z : rowOf H x with
  | none =>
    have e : belowsV H n n x = false := by unfold belowsV; rw [z]
    have e2 : lanesV H n x = false := by unfold lanesV; rw [z]
    rw [e]
    rw [e2] at k
    exact iteF (k H1 s1)
  | some xs =>
    have e : belowsV H n n x = (decide ((xs.length : Int) = n) && xs.all (belowV n)) := by unfold belowsV; rw [z]
    have e2 : lanesV H n x = ((decide ((xs.length : Int) = n) && xs.all (belowV n)) && (List.range (n : Int).toNat).all (fun (i : Nat) => inV (V.int i) xs)) := by unfold lanesV; rw [z]
    rw [e]
    rw [e2] at k
    obtain ⟨a, rfl, ha⟩ := rowOf_some z
    cases q : (decide ((xs.length : Int) = n) && xs.all (belowV n)) with
    | false => rw [q] at k; exact iteF (k H1 s1)
    | true =>
      rw [q] at k
      rw [Bool.and_eq_true] at q
      have xl : xs.length = n := by have := of_decide_eq_true q.1; omega
      obtain ⟨ns, rfl, hn⟩ := ints_below q.2
      rw [List.length_map] at xl
      refine iteT ⟨_, rfl, a, ns, rfl, SqT.of (s1 _ _ ha), by omega, fun l ms hl pm sm => ?_⟩
      have s2 := s1.trans (same_new hl (.lst (ms.map V.int)))
      refine ⟨_, rfl, n, rfl, by omega, fun p hp => ?_⟩
      have s3 := same_new hp (if true = true then HO.lst (upTo n) else .tup (upTo n))
      have hp3 : L2.upd (L2.upd H1 l (.lst (ms.map V.int))) p (if true = true then HO.lst (upTo n) else .tup (upTo n)) p = some (.lst (((List.range n).map fun (i : Nat) => (i : Int)).map V.int)) := by
        rw [upd_same, List.map_map]; rfl
      refine ⟨l, p, ms, _, rfl, rfl, SqL.of (s3 _ _ upd_same), SqL.of hp3, ?_⟩
      have fe : ((List.range (n : Int).toNat).all (fun (i : Nat) => inV (V.int i) (ns.map V.int))) = decide (ms = (List.range n).map fun (i : Nat) => (i : Int)) := by
        have fi := full_iff xl pm sm
        rw [show (n : Int).toNat = n by omega]
        by_cases y : ms = (List.range n).map fun (i : Nat) => (i : Int)
        · rw [decide_eq_true y, List.all_eq_true]
          intro i hi
          rw [in_ints, decide_eq_true (fi.mp y i (List.mem_range.mp hi))]
        · rw [decide_eq_false y]
          cases u : (List.range n).all (fun (i : Nat) => inV (V.int i) (ns.map V.int)) with
          | false => rfl
          | true =>
            refine absurd (fi.mpr fun i hi => ?_) y
            have := List.all_eq_true.mp u i (List.mem_range.mpr hi)
            rw [in_ints] at this
            exact of_decide_eq_true this
      rw [fe, Bool.true_and] at k
      exact k _ (s2.trans s3)
theorem scNe : FnScope ["thing", "lanes", "forks", "ends"] ["thing"] (defScope sIsNet) := ⟨rfl, rfl, rfl, by decide +kernel, rfl, by decide +kernel, by decide +kernel⟩
theorem ok_isnet {f fR fW fA fE : Addr} {fd dR dW dA dE : FuncData} {tk : Tok} (F : Fun K "is_net" "is_net" sIsNet f fd) (G : Mgs mg) (hM : mg "MOST_LANES" = some (.int 16 tk)) (UR : Use P w K mg base "is_row" ["thing", "many"] 1 (spIsRow K) fR dR) (UW : Use P w K mg base "is_whole" ["thing"] 1 (spWhole K) fW dW) (UA : Use P w K mg base "are_forks" ["lanes", "thing"] 4 (spAreForks K) fA dA) (UE : Use P w K mg base "are_all_lanes" ["lanes", "thing"] 4 (spAllLanes K) fE dE) : FnOk P w K mg base CX0 5 f fd ["thing"] (spIsNet K) := by
  refine F.ok scNe (fun vs H Q E h => ?_) (fun cdv A outer s H vs Q E hr h => ?_)
  · obtain ⟨x, rfl, _⟩ := h
    rfl
  obtain ⟨x, rfl, dx, k'⟩ := h
  have hr1 : Room 1 _ := hr.mono (by decide)
  refine ⟨_, (@pss_cons _ _ _ _ _ (@ps_if _ _ _ _ _ _ _ _ (@pt_not _ _ _ _ (@pt_val _ _ _ (@pe_call _ _ _ _ _ _ _ _ _ _ _ _ _ _ _ _ UR.ok hr1 (by rfl) UR.m UR.kp UR.b .nil pass0 (@pa_cons _ _ _ _ _ (@pv _ 0 _ _ (by rfl) (by first | exact Or.inl rfl | exact Or.inr (Or.inl rfl) | exact Or.inr (Or.inr rfl)) (by decide) (by decide)) (@pa_cons _ _ _ _ _ pe_int pa_nil (by rfl)) (by rfl)) (by decide) (by rfl) (by rfl)) (by intro _; rfl))) (@pss_one _ _ _ (@ps_ret _ _ _ _ pe_bl)) pss_nil) (@pss_cons _ _ _ _ _ (@ps_asg _ _ _ _ _ _ (@pv _ 0 _ _ (by rfl) (by first | exact Or.inl rfl | exact Or.inr (Or.inl rfl) | exact Or.inr (Or.inr rfl)) (by decide) (by decide)) (@pg_tup _ _ _ _ _ _ rfl (@pgs_cons _ _ _ _ _ (@pg_name _ _ 1 _ scNe.nd rfl (Or.inl rfl) (by first | exact .inl rfl | exact .inr rfl | assumption)) (@pgs_cons _ _ _ _ _ (@pg_name _ _ 2 _ scNe.nd rfl (Or.inl rfl) (by first | exact .inl rfl | exact .inr rfl | assumption)) (@pgs_cons _ _ _ _ _ (@pg_name _ _ 3 _ scNe.nd rfl (Or.inl rfl) (by first | exact .inl rfl | exact .inr rfl | assumption)) pgs_nil (by rfl)) (by rfl)) (by rfl)) (by rfl) (by rfl)) (by rfl) (by rfl) (by rfl)) (@pss_cons _ _ _ _ _ (@ps_if _ _ _ _ _ _ _ _ (@pw_or _ _ _ _ _ _ _ (@pt_not _ _ _ _ (@pt_val _ _ _ (@pe_call _ _ _ _ _ _ _ _ _ _ _ _ _ _ _ _ UW.ok hr1 (by rfl) UW.m UW.kp UW.b .nil pass0 (@pa_cons _ _ _ _ _ (@pv _ 1 _ _ (by rfl) (by first | exact Or.inl rfl | exact Or.inr (Or.inl rfl) | exact Or.inr (Or.inr rfl)) (by decide) (by decide)) pa_nil (by rfl)) (by decide) (by rfl) (by rfl)) (by intro _; rfl))) (@pw_or1 _ _ _ _ (@pt_not _ _ _ _ (@pt_chain _ _ _ _ _ _ _ _ _ _ _ _ op_le op_le pe_int (@pv _ 1 _ _ (by rfl) (by first | exact Or.inl rfl | exact Or.inr (Or.inl rfl) | exact Or.inr (Or.inr rfl)) (by decide) (by decide)) (@pe_glob _ _ (.int 16) _ _ (by rfl) @hM ⟨_, rfl⟩ (by decide)) (by with_unfolding_all rfl))))).pt (@pss_one _ _ _ (@ps_ret _ _ _ _ pe_bl)) pss_nil) (@pss_one _ _ _ (@ps_ret _ _ _ _ (@pe_and _ _ _ _ _ _ _ (@pe_call _ _ _ _ _ _ _ _ _ _ _ _ _ _ _ _ UA.ok hr (by rfl) UA.m UA.kp UA.b .nil pass0 (@pa_cons _ _ _ _ _ (@pv _ 1 _ _ (by rfl) (by first | exact Or.inl rfl | exact Or.inr (Or.inl rfl) | exact Or.inr (Or.inr rfl)) (by decide) (by decide)) (@pa_cons _ _ _ _ _ (@pv _ 2 _ _ (by rfl) (by first | exact Or.inl rfl | exact Or.inr (Or.inl rfl) | exact Or.inr (Or.inr rfl)) (by decide) (by decide)) pa_nil (by rfl)) (by rfl)) (by decide) (by rfl) (by rfl)) (@pe_one _ _ _ _ _ (@pe_call _ _ _ _ _ _ _ _ _ _ _ _ _ _ _ _ UE.ok hr (by rfl) UE.m UE.kp UE.b .nil pass0 (@pa_cons _ _ _ _ _ (@pv _ 1 _ _ (by rfl) (by first | exact Or.inl rfl | exact Or.inr (Or.inl rfl) | exact Or.inr (Or.inr rfl)) (by decide) (by decide)) (@pa_cons _ _ _ _ _ (@pv _ 3 _ _ (by rfl) (by first | exact Or.inl rfl | exact Or.inr (Or.inl rfl) | exact Or.inr (Or.inr rfl)) (by decide) (by decide)) pa_nil (by rfl)) (by rfl)) (by decide) (by rfl) (by rfl))))))))), ?_⟩
  have k := k' H (Same.refl H)
  refine ⟨_, rfl, x, 3, rfl, dx.any, _, rfl, ?_⟩
  cases z : rowOf H x with
  | none =>
    have e : rowV H 3 x = false := by unfold rowV; rw [z]
    have e2 : netV H x = false := by unfold netV; rw [z]
    rw [e]
    rw [e2] at k
    exact iteT k
  | some xs =>
    have e : rowV H 3 x = decide ((xs.length : Int) = 3) := by unfold rowV; rw [z]
    rw [e]
    obtain ⟨a, rfl, ha⟩ := rowOf_some z
    have ay := (dx.2 xs z).2
    match xs, z, ha, ay with
    | [], z, _, _ =>
      have e2 : netV H (.ref a) = false := by unfold netV; rw [z]
      rw [e2] at k; exact iteT k
    | [_], z, _, _ =>
      have e2 : netV H (.ref a) = false := by unfold netV; rw [z]
      rw [e2] at k; exact iteT k
    | [_, _], z, _, _ =>
      have e2 : netV H (.ref a) = false := by unfold netV; rw [z]
      rw [e2] at k; exact iteT k
    | [l, fo, en], z, ha, ay =>
      refine iteF ⟨_, rfl, a, _, rfl, SqT.of ha, rfl, _, _, rfl, _, _, rfl, _, _, rfl, rfl, ?_⟩
      refine ⟨_, rfl, l, rfl, (ay l (by simp)).any, _, rfl, ?_⟩
      cases l with
      | int i =>
        have e2 : netV H (.ref a) = ((decide (1 ≤ i) && decide (i ≤ 16)) && (forksV H i fo && lanesV H i en)) := by unfold netV; rw [z]
        rw [e2] at k k'
        refine iteF ⟨_, rfl, _, _, rfl, rfl, _, rfl, ?_⟩
        by_cases l1 : (1 : Int) ≤ i
        · rw [decide_eq_true l1] at k k' ⊢
          refine iteT ⟨_, _, rfl, rfl, _, rfl, ?_⟩
          by_cases l16 : i ≤ 16
          · rw [decide_eq_true l16] at k k' ⊢
            refine iteF ⟨_, rfl, _, rfl, fo, i, rfl, (ay fo (by simp)), fun H1 s1 => ⟨_, rfl, ?_⟩⟩
            cases q : forksV H i fo with
            | false => rw [q] at k'; exact iteF (k' H1 s1)
            | true =>
              rw [q] at k'
              refine iteT ⟨_, rfl, _, rfl, en, i, rfl, Deep.same s1 (ay en (by simp)).less, l1, l16, fun H2 s2 => ?_⟩
              rw [show lanesV H1 i en = lanesV H i en by unfold lanesV; rw [row_same s1 (ay en (by simp)).any]]
              exact k' H2 (s1.trans s2)
          · rw [decide_eq_false l16] at k ⊢
            exact iteT k
        · rw [decide_eq_false l1] at k ⊢
          exact iteF ⟨_, rfl, iteT k⟩
      | _ =>
        have e2 : netV H (.ref a) = false := by unfold netV; rw [z]
        rw [e2] at k; exact iteT (iteT k)
    | _ :: _ :: _ :: _ :: _, z, _, _ =>
      have e2 : netV H (.ref a) = false := by unfold netV; rw [z]
      rw [e2] at k
      rw [decide_eq_false (by simp only [List.length_cons]; omega)]
      exact iteT k
end
end K01
end
section
set_option maxHeartbeats 4000001
namespace K01
open PySem L2 Own Bn
abbrev sTruth : Stmt := top 16
abbrev sWholeL : Stmt := top 18
abbrev sIsNetL : Stmt := top 19
abbrev sRight : Stmt := top 21
def btwV (lo hi : Int) : V → Bool
  | .int i => decide (lo ≤ i) && decide (i ≤ hi)
  | _ => false
theorem btw_below (b : Int) : ∀ x : V, btwV 0 (b - 1) x = belowV b x
  | .int i => by
    show (decide (0 ≤ i) && decide (i ≤ b - 1)) = (decide (0 ≤ i) && decide (i < b))
    rw [show decide (i ≤ b - 1) = decide (i < b) from decide_eq_decide.mpr (by omega)]
  | .bl _ => rfl
  | .non => rfl
  | .str _ => rfl
  | .flt _ => rfl
  | .byt _ => rfl
  | .ref _ => rfl
  | .ty _ => rfl
def spTruth : Sp := fun vs H Q _ => ∃ c d : Bool, vs = [.bl c, .bl d] ∧ Q (.bl (decide (c = d))) H
def spWholeL (K : PySem.W.Frag) : Sp := fun vs H Q _ => ∃ x, ∃ lo hi : Int, vs = [x, .int lo, .int hi] ∧ AnyT K H x ∧ Q (.bl (btwV lo hi x)) H
def spRight (K : PySem.W.Frag) : Sp := fun vs H Q _ => ∃ x, vs = [x] ∧ Deep K H 3 x ∧ ∀ H', Same H H' → Q (.bl true) H'
theorem net_same {K : PySem.W.Frag} {H H' : Hp} {x : V} (s : Same H H') (d : Deep K H 3 x) : netV H' x = netV H x := by
  have e := row_same s d.1
  cases z : rowOf H x with
  | none => unfold netV; rw [e, z]
  | some xs =>
    have ay := (d.2 xs z).2
    match xs, z, ay with
    | [], z, _ => unfold netV; rw [e, z]
    | [_], z, _ => unfold netV; rw [e, z]
    | [_, _], z, _ => unfold netV; rw [e, z]
    | _ :: _ :: _ :: _ :: _, z, _ => unfold netV; rw [e, z]
    | [l, f, en], z, ay =>
      unfold netV; rw [e, z]
      cases l with
      | int i =>
        have df := ay f (by simp)
        have de := ay en (by simp)
        have e1 : lanesV H' i en = lanesV H i en := by unfold lanesV; rw [row_same s de.any]
        have e2 : forksV H' i f = forksV H i f := by
          unfold forksV; rw [row_same s df.any]
          cases y : rowOf H f with
          | none => rfl
          | some ys =>
            show (_ && ys.all (forkV H' i)) = (_ && ys.all (forkV H i))
            rw [show ys.all (forkV H' i) = ys.all (forkV H i) from by
              have := (df.2 ys y).2
              clear y
              induction ys with
              | nil => rfl
              | cons u us ih => rw [List.all_cons, List.all_cons, fork_same s (this u (by simp)).any, ih fun w hw => this w (by simp [hw])]]
        show (_ && (forksV H' i f && lanesV H' i en)) = (_ && (forksV H i f && lanesV H i en))
        rw [e1, e2]
      | _ => rfl
section
variable {P : Program} {w : World} {K : PySem.W.Frag} {mg : Str → Option Value} {base : Heap}
theorem scTr : FnScope ["_law_found", "_law_due"] ["_law_found", "_law_due"] (defScope sTruth) := ⟨rfl, rfl, rfl, by decide +kernel, rfl, by decide +kernel, by decide +kernel⟩
theorem ok_truth {f : Addr} {fd : FuncData} (F : Fun K "_law_truth" "_law_truth" sTruth f fd) (G : Mgs mg) : FnOk P w K mg base CX0 1 f fd ["_law_found", "_law_due"] spTruth := by
  refine F.ok scTr (fun vs H Q E h => ?_) (fun cdv A outer s H vs Q E hr h => ?_)
  · obtain ⟨c, d, rfl, _⟩ := h
    rfl
  obtain ⟨c, d, rfl, k⟩ := h
  refine ⟨_, (@pss_one _ _ _ (@ps_ret _ _ _ _ (@pe_and _ _ _ _ _ _ _ (@pe_callB _ _ _ _ _ _ _ _ _ call_isi (by rfl) G.isi (by rfl) (@pa_cons _ _ _ _ _ (@pv _ 0 _ _ (by rfl) (by first | exact Or.inl rfl | exact Or.inr (Or.inl rfl) | exact Or.inr (Or.inr rfl)) (by decide) (by decide)) (@pa_cons _ _ _ _ _ (@pe_bltn _ _ (.ty "bool") (.type "bool") _ (by rfl) G.bool (by rfl) rfl (by decide) (by decide)) pa_nil (by rfl)) (by rfl)) (by decide) (by decide) (by rfl) (by rfl)) (@pe_one _ _ _ _ _ (@pe_cmpR _ _ _ _ _ _ _ _ op_eq (@pv _ 0 _ _ (by rfl) (by first | exact Or.inl rfl | exact Or.inr (Or.inl rfl) | exact Or.inr (Or.inr rfl)) (by decide) (by decide)) (@pv _ 1 _ _ (by rfl) (by first | exact Or.inl rfl | exact Or.inr (Or.inl rfl) | exact Or.inr (Or.inr rfl)) (by decide) (by decide)) (nomark _)))))), ?_⟩
  refine ⟨_, rfl, _, "bool", _, true, rfl, .bl c, rfl, _, rfl, iteT ⟨_, rfl, _, rfl, rfl, ?_⟩⟩
  rw [show decide (V.bl c = V.bl d) = decide (c = d) from decide_eq_decide.mpr ⟨fun z => V.bl.inj z, fun z => congrArg V.bl z⟩]
  exact k
theorem scWl : FnScope ["_law_thing", "_law_least", "_law_most"] ["_law_thing", "_law_least", "_law_most"] (defScope sWholeL) := ⟨rfl, rfl, rfl, by decide +kernel, rfl, by decide +kernel, by decide +kernel⟩
theorem ok_wholel {f : Addr} {fd : FuncData} (F : Fun K "_law_whole" "_law_whole" sWholeL f fd) (G : Mgs mg) : FnOk P w K mg base CX0 1 f fd ["_law_thing", "_law_least", "_law_most"] (spWholeL K) := by
  refine F.ok scWl (fun vs H Q E h => ?_) (fun cdv A outer s H vs Q E hr h => ?_)
  · obtain ⟨x, lo, hi, rfl, _⟩ := h
    rfl
  obtain ⟨x, lo, hi, rfl, ax, k⟩ := h
  refine ⟨_, (@pss_one _ _ _ (@ps_ret _ _ _ _ (@pe_and _ _ _ _ _ _ _ (@pe_callB _ _ _ _ _ _ _ _ _ call_isi (by rfl) G.isi (by rfl) (@pa_cons _ _ _ _ _ (@pv _ 0 _ _ (by rfl) (by first | exact Or.inl rfl | exact Or.inr (Or.inl rfl) | exact Or.inr (Or.inr rfl)) (by decide) (by decide)) (@pa_cons _ _ _ _ _ (@pe_bltn _ _ (.ty "int") (.type "int") _ (by rfl) G.int (by rfl) rfl (by decide) (by decide)) pa_nil (by rfl)) (by rfl)) (by decide) (by decide) (by rfl) (by rfl)) (@pe_and _ _ _ _ _ _ _ (@pe_not _ _ _ _ (@pe_callB _ _ _ _ _ _ _ _ _ call_isi (by rfl) G.isi (by rfl) (@pa_cons _ _ _ _ _ (@pv _ 0 _ _ (by rfl) (by first | exact Or.inl rfl | exact Or.inr (Or.inl rfl) | exact Or.inr (Or.inr rfl)) (by decide) (by decide)) (@pa_cons _ _ _ _ _ (@pe_bltn _ _ (.ty "bool") (.type "bool") _ (by rfl) G.bool (by rfl) rfl (by decide) (by decide)) pa_nil (by rfl)) (by rfl)) (by decide) (by decide) (by rfl) (by rfl))) (@pe_one _ _ _ _ _ (@pe_chain _ _ _ _ _ _ _ _ _ _ _ _ op_le op_le (@pv _ 1 _ _ (by rfl) (by first | exact Or.inl rfl | exact Or.inr (Or.inl rfl) | exact Or.inr (Or.inr rfl)) (by decide) (by decide)) (@pv _ 0 _ _ (by rfl) (by first | exact Or.inl rfl | exact Or.inr (Or.inl rfl) | exact Or.inr (Or.inr rfl)) (by decide) (by decide)) (@pv _ 2 _ _ (by rfl) (by first | exact Or.inl rfl | exact Or.inr (Or.inl rfl) | exact Or.inr (Or.inr rfl)) (by decide) (by decide)) (by with_unfolding_all rfl))))))), ?_⟩
  obtain ⟨t, I⟩ := ax.isi
  refine ⟨_, rfl, _, "int", _, _, rfl, I.ty, I.int, _, rfl, ?_⟩
  cases x with
  | int i =>
    refine iteT ⟨_, rfl, _, "bool", _, _, rfl, I.ty, I.bool, _, rfl, _, rfl, iteT ⟨_, rfl, _, rfl, _, _, rfl, rfl, _, rfl, ?_⟩⟩
    have e : btwV lo hi (.int i) = (decide (lo ≤ i) && decide (i ≤ hi)) := rfl
    rw [e] at k
    by_cases z : lo ≤ i
    · rw [decide_eq_true z] at k ⊢
      exact iteT ⟨_, rfl, _, _, rfl, rfl, k⟩
    · rw [decide_eq_false z] at k ⊢
      exact iteF k
  | bl z => exact iteT ⟨_, rfl, _, "bool", _, _, rfl, I.ty, I.bool, _, rfl, _, rfl, iteF k⟩
  | non => exact iteF k
  | str z => exact iteF k
  | flt z => exact iteF k
  | byt z => exact iteF k
  | ref z => exact iteF k
  | ty z => exact iteF k
theorem scRi : FnScope ["_law_thing", "_law_due"] ["_law_thing"] (defScope sRight) := ⟨rfl, rfl, rfl, by decide +kernel, rfl, by decide +kernel, by decide +kernel⟩
theorem ok_right {f fI fN fT : Addr} {fd dI dN dT : FuncData} (F : Fun K "_law_right" "_law_right" sRight f fd) (G : Mgs mg) (UI : Use P w K mg base "_law_is_net" ["_law_thing"] 2 (spIsNet K) fI dI) (UN : Use P w K mg base "is_net" ["thing"] 5 (spIsNet K) fN dN) (UT : Use P w K mg base "_law_truth" ["_law_found", "_law_due"] 1 spTruth fT dT) : FnOk P w K mg base CX0 6 f fd ["_law_thing"] (spRight K) := by
  refine F.ok scRi (fun vs H Q E h => ?_) (fun cdv A outer s H vs Q E hr h => ?_)
  · obtain ⟨x, rfl, _⟩ := h
    rfl
  obtain ⟨x, rfl, dx, k⟩ := h
  have hr1 : Room 1 _ := hr.mono (by decide)
  have hr2 : Room 2 _ := hr.mono (by decide)
  refine ⟨_, (@pss_cons _ _ _ _ _ (@ps_set _ _ 1 _ _ _ _ scRi.nd rfl (Or.inl rfl) (@pe_call _ _ _ _ _ _ _ _ _ _ _ _ _ _ _ _ UI.ok hr2 (by rfl) UI.m UI.kp UI.b .nil pass0 (@pa_cons _ _ _ _ _ (@pv _ 0 _ _ (by rfl) (by first | exact Or.inl rfl | exact Or.inr (Or.inl rfl) | exact Or.inr (Or.inr rfl)) (by decide) (by decide)) pa_nil (by rfl)) (by decide) (by rfl) (by rfl)) (by rfl) (by first | exact .inl rfl | exact .inr rfl | assumption)) (@pss_one _ _ _ (@ps_ret _ _ _ _ (@pe_and _ _ _ _ _ _ _ (@pe_call _ _ _ _ _ _ _ _ _ _ _ _ _ _ _ _ UT.ok hr1 (by rfl) UT.m UT.kp UT.b .nil pass0 (@pa_cons _ _ _ _ _ (@pe_call _ _ _ _ _ _ _ _ _ _ _ _ _ _ _ _ UN.ok hr (by rfl) UN.m UN.kp UN.b .nil pass0 (@pa_cons _ _ _ _ _ (@pv _ 0 _ _ (by rfl) (by first | exact Or.inl rfl | exact Or.inr (Or.inl rfl) | exact Or.inr (Or.inr rfl)) (by decide) (by decide)) pa_nil (by rfl)) (by decide) (by rfl) (by rfl)) (@pa_cons _ _ _ _ _ (@pv _ 1 _ _ (by rfl) (by first | exact Or.inl rfl | exact Or.inr (Or.inl rfl) | exact Or.inr (Or.inr rfl)) (by decide) (by decide)) pa_nil (by rfl)) (by rfl)) (by decide) (by rfl) (by rfl)) (@pe_one _ _ _ _ _ (@pe_call _ _ _ _ _ _ _ _ _ _ _ _ _ _ _ _ UT.ok hr1 (by rfl) UT.m UT.kp UT.b .nil pass0 (@pa_cons _ _ _ _ _ (@pe_call _ _ _ _ _ _ _ _ _ _ _ _ _ _ _ _ UN.ok hr (by rfl) UN.m UN.kp UN.b .nil pass0 (@pa_cons _ _ _ _ _ (@pv _ 0 _ _ (by rfl) (by first | exact Or.inl rfl | exact Or.inr (Or.inl rfl) | exact Or.inr (Or.inr rfl)) (by decide) (by decide)) pa_nil (by rfl)) (by decide) (by rfl) (by rfl)) (@pa_cons _ _ _ _ _ (@pv _ 1 _ _ (by rfl) (by first | exact Or.inl rfl | exact Or.inr (Or.inl rfl) | exact Or.inr (Or.inr rfl)) (by decide) (by decide)) pa_nil (by rfl)) (by rfl)) (by decide) (by rfl) (by rfl))))))), ?_⟩
  refine ⟨_, rfl, x, rfl, dx, fun H1 s1 => ?_⟩
  refine ⟨_, rfl, x, rfl, Deep.same s1 dx, fun H2 s2 => ⟨_, rfl, _, _, rfl, _, rfl, ?_⟩⟩
  rw [net_same s1 dx, decide_eq_true rfl]
  refine iteT ⟨_, rfl, x, rfl, Deep.same (s1.trans s2) dx, fun H3 s3 => ⟨_, rfl, _, _, rfl, ?_⟩⟩
  rw [net_same (s1.trans s2) dx, decide_eq_true rfl]
  exact k H3 ((s1.trans s2).trans s3)
end
end K01
end
section
set_option maxHeartbeats 4000001
namespace K01
open PySem L2 Own Bn
section
variable {P : Program} {w : World} {K : PySem.W.Frag} {mg : Str → Option Value} {base : Heap}
theorem scIn : FnScope ["_law_thing", "_law_lanes", "_law_forks", "_law_ends", "_law_fork"] ["_law_thing"] (defScope sIsNetL) := ⟨rfl, rfl, rfl, by decide +kernel, rfl, by decide +kernel, by decide +kernel⟩
theorem ok_isnetl {f fW : Addr} {fd dW : FuncData} (F : Fun K "_law_is_net" "_law_is_net" sIsNetL f fd) (G : Mgs mg) (UW : Use P w K mg base "_law_whole" ["_law_thing", "_law_least", "_law_most"] 1 (spWholeL K) fW dW) : FnOk P w K mg base CX0 2 f fd ["_law_thing"] (spIsNet K) := by
  refine F.ok scIn (fun vs H Q E h => ?_) (fun cdv A outer s H vs Q E hr h => ?_)
  · obtain ⟨x, rfl, _⟩ := h
    rfl
  obtain ⟨x, rfl, dx, k'⟩ := h
  refine ⟨_, (@pss_cons _ _ _ _ _ (@ps_if _ _ _ _ _ _ _ _ (PW.pt (@pw_or _ _ _ _ _ _ _ (@pt_not _ _ _ _ (@pt_val _ _ _ (@pe_callB _ _ _ _ _ _ _ _ _ call_isi (by rfl) G.isi (by rfl) (@pa_cons _ _ _ _ _ (@pv _ 0 _ _ (by rfl) (by first | exact Or.inl rfl | exact Or.inr (Or.inl rfl) | exact Or.inr (Or.inr rfl)) (by decide) (by decide)) (@pa_cons _ _ _ _ _ (@pe_bltn _ _ (.ty "tuple") (.type "tuple") _ (by rfl) G.tuple (by rfl) rfl (by decide) (by decide)) pa_nil (by rfl)) (by rfl)) (by decide) (by decide) (by rfl) (by rfl)) (by intro _; rfl))) (@pw_or _ _ _ _ _ _ _ (@pt_cmpR _ _ _ _ _ _ _ _ op_ne (@pe_callB _ _ _ _ _ _ _ _ _ call_len_seq (by rfl) G.len PySem.boot_len (@pa_cons _ _ _ _ _ (@pv _ 0 _ _ (by rfl) (by first | exact Or.inl rfl | exact Or.inr (Or.inl rfl) | exact Or.inr (Or.inr rfl)) (by decide) (by decide)) pa_nil (by rfl)) (by decide) (by decide) (by rfl) (by rfl)) pe_int (nomark _)) (@pw_or1 _ _ _ _ (@pt_not _ _ _ _ (@pt_val _ _ _ (@pe_call _ _ _ _ _ _ _ _ _ _ _ _ _ _ _ _ UW.ok hr (by rfl) UW.m UW.kp UW.b .nil pass0 (@pa_cons _ _ _ _ _ (@pe_ix _ _ _ _ _ _ _ ix_tup (@pv _ 0 _ _ (by rfl) (by first | exact Or.inl rfl | exact Or.inr (Or.inl rfl) | exact Or.inr (Or.inr rfl)) (by decide) (by decide)) pe_int (fun _ _ => rfl)) (@pa_cons _ _ _ _ _ pe_int (@pa_cons _ _ _ _ _ pe_int pa_nil (by rfl)) (by rfl)) (by rfl)) (by decide) (by rfl) (by rfl)) (by intro _; rfl))))))) (@pss_one _ _ _ (@ps_ret _ _ _ _ pe_bl)) pss_nil) (@pss_cons _ _ _ _ _ (@ps_asg _ _ _ _ _ _ (@pv _ 0 _ _ (by rfl) (by first | exact Or.inl rfl | exact Or.inr (Or.inl rfl) | exact Or.inr (Or.inr rfl)) (by decide) (by decide)) (@pg_tup _ _ _ _ _ _ rfl (@pgs_cons _ _ _ _ _ (@pg_name _ _ 1 _ scIn.nd rfl (Or.inr rfl) (by first | exact .inl rfl | exact .inr rfl | assumption)) (@pgs_cons _ _ _ _ _ (@pg_name _ _ 2 _ scIn.nd rfl (Or.inl rfl) (by first | exact .inl rfl | exact .inr rfl | assumption)) (@pgs_cons _ _ _ _ _ (@pg_name _ _ 3 _ scIn.nd rfl (Or.inr rfl) (by first | exact .inl rfl | exact .inr rfl | assumption)) pgs_nil (by rfl)) (by rfl)) (by rfl)) (by rfl) (by rfl)) (by rfl) (by rfl) (by rfl)) (@pss_cons _ _ _ _ _ (@ps_if _ _ _ _ _ _ _ _ (PW.pt (@pw_or _ _ _ _ _ _ _ (@pt_not _ _ _ _ (@pt_val _ _ _ (@pe_callB _ _ _ _ _ _ _ _ _ call_isi (by rfl) G.isi (by rfl) (@pa_cons _ _ _ _ _ (@pv _ 2 _ _ (by rfl) (by first | exact Or.inl rfl | exact Or.inr (Or.inl rfl) | exact Or.inr (Or.inr rfl)) (by decide) (by decide)) (@pa_cons _ _ _ _ _ (@pe_bltn _ _ (.ty "tuple") (.type "tuple") _ (by rfl) G.tuple (by rfl) rfl (by decide) (by decide)) pa_nil (by rfl)) (by rfl)) (by decide) (by decide) (by rfl) (by rfl)) (by intro _; rfl))) (@pw_or _ _ _ _ _ _ _ (@pt_cmpR _ _ _ _ _ _ _ _ op_gt (@pe_callB _ _ _ _ _ _ _ _ _ call_len_seq (by rfl) G.len PySem.boot_len (@pa_cons _ _ _ _ _ (@pv _ 2 _ _ (by rfl) (by first | exact Or.inl rfl | exact Or.inr (Or.inl rfl) | exact Or.inr (Or.inr rfl)) (by decide) (by decide)) pa_nil (by rfl)) (by decide) (by decide) (by rfl) (by rfl)) pe_int (nomark _)) (@pw_or _ _ _ _ _ _ _ (@pt_not _ _ _ _ (@pt_val _ _ _ (@pe_callB _ _ _ _ _ _ _ _ _ call_isi (by rfl) G.isi (by rfl) (@pa_cons _ _ _ _ _ (@pv _ 3 _ _ (by rfl) (by first | exact Or.inl rfl | exact Or.inr (Or.inl rfl) | exact Or.inr (Or.inr rfl)) (by decide) (by decide)) (@pa_cons _ _ _ _ _ (@pe_bltn _ _ (.ty "tuple") (.type "tuple") _ (by rfl) G.tuple (by rfl) rfl (by decide) (by decide)) pa_nil (by rfl)) (by rfl)) (by decide) (by decide) (by rfl) (by rfl)) (by intro _; rfl))) (@pw_or1 _ _ _ _ (@pt_cmpR _ _ _ _ _ _ _ _ op_ne (@pe_callB _ _ _ _ _ _ _ _ _ call_len_seq (by rfl) G.len PySem.boot_len (@pa_cons _ _ _ _ _ (@pv _ 3 _ _ (by rfl) (by first | exact Or.inl rfl | exact Or.inr (Or.inl rfl) | exact Or.inr (Or.inr rfl)) (by decide) (by decide)) pa_nil (by rfl)) (by decide) (by decide) (by rfl) (by rfl)) (@pv _ 1 _ _ (by rfl) (by first | exact Or.inl rfl | exact Or.inr (Or.inl rfl) | exact Or.inr (Or.inr rfl)) (by decide) (by decide)) (nomark _))))))) (@pss_one _ _ _ (@ps_ret _ _ _ _ pe_bl)) pss_nil) (@pss_cons _ _ _ _ _ (@ps_for _ _ _ _ _ _ _ _ PassesOwn.never rfl (@pi_tup _ _ _ _ (@pv _ 2 _ _ (by rfl) (by first | exact Or.inl rfl | exact Or.inr (Or.inl rfl) | exact Or.inr (Or.inr rfl)) (by decide) (by decide))) (@pg_name _ _ 4 _ scIn.nd rfl (Or.inl rfl) (by first | exact .inl rfl | exact .inr rfl | assumption)) (@pss_cons _ _ _ _ _ (@ps_if _ _ _ _ _ _ _ _ (PW.pt (@pw_or _ _ _ _ _ _ _ (@pt_not _ _ _ _ (@pt_val _ _ _ (@pe_callB _ _ _ _ _ _ _ _ _ call_isi (by rfl) G.isi (by rfl) (@pa_cons _ _ _ _ _ (@pv _ 4 _ _ (by rfl) (by first | exact Or.inl rfl | exact Or.inr (Or.inl rfl) | exact Or.inr (Or.inr rfl)) (by decide) (by decide)) (@pa_cons _ _ _ _ _ (@pe_bltn _ _ (.ty "tuple") (.type "tuple") _ (by rfl) G.tuple (by rfl) rfl (by decide) (by decide)) pa_nil (by rfl)) (by rfl)) (by decide) (by decide) (by rfl) (by rfl)) (by intro _; rfl))) (@pw_or1 _ _ _ _ (@pt_cmpR _ _ _ _ _ _ _ _ op_ne (@pe_callB _ _ _ _ _ _ _ _ _ call_len_seq (by rfl) G.len PySem.boot_len (@pa_cons _ _ _ _ _ (@pv _ 4 _ _ (by rfl) (by first | exact Or.inl rfl | exact Or.inr (Or.inl rfl) | exact Or.inr (Or.inr rfl)) (by decide) (by decide)) pa_nil (by rfl)) (by decide) (by decide) (by rfl) (by rfl)) pe_int (nomark _))))) (@pss_one _ _ _ (@ps_ret _ _ _ _ pe_bl)) pss_nil) (@pss_one _ _ _ (@ps_if _ _ _ _ _ _ _ _ (PW.pt (@pw_or _ _ _ _ _ _ _ (@pt_not _ _ _ _ (@pt_val _ _ _ (@pe_callB _ _ _ _ _ _ _ _ _ (call_allB rfl true) (by rfl) G.all (by rfl) (@pa_cons _ _ _ _ _ (@pe_lc _ _ _ _ none _ _ _ _ _ _ ["_law_lane", "_law_lanes"] [none, some 1] rfl (@pi_tup _ _ _ _ (@pv _ 4 _ _ (by rfl) (by first | exact Or.inl rfl | exact Or.inr (Or.inl rfl) | exact Or.inr (Or.inr rfl)) (by decide) (by decide))) (CapOk.of (by kernel_rfl)) (fun _ _ _ _ _ => (@pg_name _ _ 0 _ (show (["_law_lane", "_law_lanes"] : List Str).Nodup from by decide +kernel) rfl (Or.inl rfl) (Or.inr rfl))) (fun _ _ _ _ _ => pt_none) (fun _ _ _ _ _ => (@pe_call _ _ _ _ _ _ _ _ _ _ _ _ _ _ _ _ UW.ok hr (by rfl) UW.m UW.kp UW.b .nil pass0 (@pa_cons _ _ _ _ _ (@pv _ 0 _ _ (by rfl) (by first | exact Or.inl rfl | exact Or.inr (Or.inl rfl) | exact Or.inr (Or.inr rfl)) (by decide) (by decide)) (@pa_cons _ _ _ _ _ pe_int (@pa_cons _ _ _ _ _ (@pe_op _ _ _ _ _ _ _ _ op_sub (@pv _ 1 _ _ (by rfl) (by first | exact Or.inl rfl | exact Or.inr (Or.inl rfl) | exact Or.inr (Or.inr rfl)) (by decide) (by decide)) pe_int) pa_nil (by rfl)) (by rfl)) (by rfl)) (by decide) (by rfl) (by rfl))) (by intro _; rfl)) pa_nil (by rfl)) (by decide) (by decide) (by rfl) (by rfl)) (by intro _; rfl))) (@pw_or1 _ _ _ _ (@pt_cmpR _ _ _ _ _ _ _ _ op_eq (@pe_ix _ _ _ _ _ _ _ ix_tup (@pv _ 4 _ _ (by rfl) (by first | exact Or.inl rfl | exact Or.inr (Or.inl rfl) | exact Or.inr (Or.inr rfl)) (by decide) (by decide)) pe_int (fun _ _ => rfl)) (@pe_ix _ _ _ _ _ _ _ ix_tup (@pv _ 4 _ _ (by rfl) (by first | exact Or.inl rfl | exact Or.inr (Or.inl rfl) | exact Or.inr (Or.inr rfl)) (by decide) (by decide)) pe_int (fun _ _ => rfl)) (nomark _))))) (@pss_one _ _ _ (@ps_ret _ _ _ _ pe_bl)) pss_nil))) (by intro _; rfl)) (@pss_cons _ _ _ _ _ (@ps_if _ _ _ _ _ _ _ _ (@pt_not _ _ _ _ (@pt_val _ _ _ (@pe_callB _ _ _ _ _ _ _ _ _ (call_allB rfl true) (by rfl) G.all (by rfl) (@pa_cons _ _ _ _ _ (@pe_lc _ _ _ _ none _ _ _ _ _ _ ["_law_lane", "_law_lanes"] [none, some 1] rfl (@pi_tup _ _ _ _ (@pv _ 3 _ _ (by rfl) (by first | exact Or.inl rfl | exact Or.inr (Or.inl rfl) | exact Or.inr (Or.inr rfl)) (by decide) (by decide))) (CapOk.of (by kernel_rfl)) (fun _ _ _ _ _ => (@pg_name _ _ 0 _ (show (["_law_lane", "_law_lanes"] : List Str).Nodup from by decide +kernel) rfl (Or.inl rfl) (Or.inr rfl))) (fun _ _ _ _ _ => pt_none) (fun _ _ _ _ _ => (@pe_call _ _ _ _ _ _ _ _ _ _ _ _ _ _ _ _ UW.ok hr (by rfl) UW.m UW.kp UW.b .nil pass0 (@pa_cons _ _ _ _ _ (@pv _ 0 _ _ (by rfl) (by first | exact Or.inl rfl | exact Or.inr (Or.inl rfl) | exact Or.inr (Or.inr rfl)) (by decide) (by decide)) (@pa_cons _ _ _ _ _ pe_int (@pa_cons _ _ _ _ _ (@pe_op _ _ _ _ _ _ _ _ op_sub (@pv _ 1 _ _ (by rfl) (by first | exact Or.inl rfl | exact Or.inr (Or.inl rfl) | exact Or.inr (Or.inr rfl)) (by decide) (by decide)) pe_int) pa_nil (by rfl)) (by rfl)) (by rfl)) (by decide) (by rfl) (by rfl))) (by intro _; rfl)) pa_nil (by rfl)) (by decide) (by decide) (by rfl) (by rfl)) (by intro _; rfl))) (@pss_one _ _ _ (@ps_ret _ _ _ _ pe_bl)) pss_nil) (@pss_one _ _ _ (@ps_ret _ _ _ _ (@pe_callB _ _ _ _ _ _ _ _ _ (call_allB rfl true) (by rfl) G.all (by rfl) (@pa_cons _ _ _ _ _ (@pe_lc _ _ _ _ none _ _ _ _ _ _ ["_law_lane", "_law_ends"] [none, some 3] rfl (@pi_range1 _ _ _ _ _ _ rfl G.range (@pa_cons _ _ _ _ _ (@pv _ 1 _ _ (by rfl) (by first | exact Or.inl rfl | exact Or.inr (Or.inl rfl) | exact Or.inr (Or.inr rfl)) (by decide) (by decide)) pa_nil (by rfl)) (by rfl)) (CapOk.of (by kernel_rfl)) (fun _ _ _ _ _ => (@pg_name _ _ 0 _ (show (["_law_lane", "_law_ends"] : List Str).Nodup from by decide +kernel) rfl (Or.inl rfl) (Or.inr rfl))) (fun _ _ _ _ _ => pt_none) (fun _ _ _ _ _ => (@pe_cmpR _ _ _ _ _ _ _ (rIn K false) op_in_seq (@pv _ 0 _ _ (by rfl) (by first | exact Or.inl rfl | exact Or.inr (Or.inl rfl) | exact Or.inr (Or.inr rfl)) (by decide) (by decide)) (@pv _ 1 _ _ (by rfl) (by first | exact Or.inl rfl | exact Or.inr (Or.inl rfl) | exact Or.inr (Or.inr rfl)) (by decide) (by decide)) (by rfl))) (by intro _; rfl)) pa_nil (by rfl)) (by decide) (by decide) (by rfl) (by rfl))))))))), ?_⟩
  have k := k' H (Same.refl H)
  obtain ⟨t, I⟩ := dx.any.isi
  refine ⟨_, rfl, _, "tuple", _, _, rfl, I.ty, I.tup, _, rfl, ?_⟩
  cases z : rowOf H x with
  | none =>
    have e2 : netV H x = false := by unfold netV; rw [z]
    rw [e2] at k
    exact iteT (iteT k)
  | some xs =>
    obtain ⟨a, rfl, ha⟩ := rowOf_some z
    have ay := (dx.2 xs z).2
    refine iteF ⟨_, rfl, a, _, rfl, .inr (SqT.of ha), rfl, _, rfl, ?_⟩
    match xs, z, ha, ay with
    | [], z, _, _ =>
      have e2 : netV H (.ref a) = false := by unfold netV; rw [z]
      rw [e2] at k; exact iteT (iteT k)
    | [_], z, _, _ =>
      have e2 : netV H (.ref a) = false := by unfold netV; rw [z]
      rw [e2] at k; exact iteT (iteT k)
    | [_, _], z, _, _ =>
      have e2 : netV H (.ref a) = false := by unfold netV; rw [z]
      rw [e2] at k; exact iteT (iteT k)
    | _ :: _ :: _ :: _ :: xs', z, _, _ =>
      have e2 : netV H (.ref a) = false := by unfold netV; rw [z]
      rw [e2] at k
      refine ite2 (fun _ => iteT k) (fun y => absurd ?_ y)
      rw [int_dec, decide_eq_false (by simp only [List.length_cons]; omega)]; rfl
    | [l, fo, en], z, ha, ay =>
      have al := ay l (by simp)
      have df := ay fo (by simp)
      have de := ay en (by simp)
      refine iteF ⟨_, rfl, a, _, _, _, rfl, rfl, SqT.of ha, rfl, l, 1, 16, rfl, al.any, _, rfl, ?_⟩
      cases l with
      | int i =>
        have e2 : netV H (.ref a) = ((decide (1 ≤ i) && decide (i ≤ 16)) && (forksV H i fo && lanesV H i en)) := by unfold netV; rw [z]
        rw [e2] at k k'
        have e3 : btwV 1 16 (.int i) = (decide (1 ≤ i) && decide (i ≤ 16)) := rfl
        rw [e3]
        cases q : (decide (1 ≤ i) && decide (i ≤ 16)) with
        | false => rw [q] at k; exact iteT k
        | true =>
          rw [q, Bool.true_and] at k k'
          have li : 1 ≤ i ∧ i ≤ 16 := by
            have := (Bool.and_eq_true _ _).mp q
            exact ⟨of_decide_eq_true this.1, of_decide_eq_true this.2⟩
          refine iteF ⟨_, rfl, a, _, rfl, SqT.of ha, rfl, _, _, rfl, _, _, rfl, _, _, rfl, rfl, ?_⟩
          obtain ⟨tf, If⟩ := df.any.isi
          refine ⟨_, rfl, _, "tuple", _, _, rfl, If.ty, If.tup, _, rfl, ?_⟩
          cases zf : rowOf H fo with
          | none =>
            have e4 : forksV H i fo = false := by unfold forksV; rw [zf]
            rw [e4] at k; exact iteT (iteT k)
          | some fs =>
            have e4 : forksV H i fo = (decide ((fs.length : Int) ≤ 128) && fs.all (forkV H i)) := by unfold forksV; rw [zf]
            rw [e4] at k k'
            obtain ⟨b, rfl, hb⟩ := rowOf_some zf
            refine iteF ⟨_, rfl, b, _, rfl, .inr (SqT.of hb), _, _, rfl, rfl, _, rfl, ?_⟩
            by_cases big : (fs.length : Int) ≤ 128
            · rw [decide_eq_true big, Bool.true_and] at k k'
              rw [decide_eq_false (show ¬ (128 : Int) < fs.length by omega)]
              obtain ⟨te, Ie⟩ := de.any.isi
              refine iteF ⟨_, rfl, _, "tuple", _, _, rfl, Ie.ty, Ie.tup, _, rfl, ?_⟩
              cases ze : rowOf H en with
              | none =>
                have e5 : lanesV H i en = false := by unfold lanesV; rw [ze]
                rw [e5, Bool.and_false] at k; exact iteT (iteT k)
              | some es =>
                have e5 : lanesV H i en = ((decide ((es.length : Int) = i) && es.all (belowV i)) && (List.range i.toNat).all (fun (j : Nat) => inV (V.int j) es)) := by unfold lanesV; rw [ze]
                rw [e5] at k k'
                obtain ⟨c, rfl, hc⟩ := rowOf_some ze
                refine iteF ⟨_, rfl, c, _, rfl, .inr (SqT.of hc), _, rfl, rfl, _, rfl, ?_⟩
                rw [int_dec]
                by_cases el : (es.length : Int) = i
                · rw [decide_eq_true el, Bool.true_and] at k k'
                  rw [decide_eq_true el]
                  refine iteF ⟨_, rfl, b, rfl, ⟨_, SqT.of hb⟩, ?_⟩
                  refine for_tup (K := K) (a := b) (xs := fs) (fun j σ H2 => (∃ v4, σ = [some (.ref a), some (.int i), some (.ref b), some (.ref c), v4]) ∧ Same H H2 ∧ (fs.take j).all (forkV H i) = true) ⟨⟨_, rfl⟩, Same.refl _, rfl⟩ (fun j σ H2 _ q => SqT.of (q.2.1 _ _ hb)) ?_ ?_
                  · rintro j y σ H2 hy ⟨⟨v4, rfl⟩, s2, al2⟩
                    have jl := (List.getElem?_eq_some_iff.mp hy).1
                    have dy := (df.2 fs zf).2 y (List.mem_of_getElem? hy)
                    have bad : forkV H i y = false → ∀ H', Same H H' → Q (.bl false) H' := fun hv H' s' => by
                      have : fs.all (forkV H i) = false := by
                        cases u : fs.all (forkV H i) with
                        | false => rfl
                        | true => have := List.all_eq_true.mp u y (List.mem_of_getElem? hy); rw [hv] at this; cases this
                      have kk := k' H' s'
                      rw [this] at kk; exact kk
                    have good : forkV H i y = true → (fs.take (j + 1)).all (forkV H i) = true := fun hv => by
                      have ye : fs[j] = y := (List.getElem?_eq_some_iff.mp hy).2
                      rw [List.take_succ_eq_append_getElem jl, List.all_append, al2, ye, List.all_cons, hv]; rfl
                    obtain ⟨ty, Iy⟩ := (AnyT.same s2 dy.any).isi
                    refine ⟨_, rfl, _, "tuple", _, _, rfl, Iy.ty, Iy.tup, _, rfl, ?_⟩
                    rw [row_same s2 dy.any]
                    cases zy : rowOf H y with
                    | none =>
                      have e6 : forkV H i y = false := by unfold forkV; rw [zy]
                      exact iteT (iteT (bad e6 H2 s2))
                    | some ys =>
                      obtain ⟨d, rfl, hd⟩ := rowOf_some zy
                      have hd2 := s2 _ _ hd
                      refine iteF ⟨_, rfl, d, _, rfl, .inr (SqT.of hd2), rfl, _, rfl, ?_⟩
                      match ys, zy, hd, hd2, (dy.2 ys zy).2 with
                      | [], zy, _, _, _ => exact iteT (bad (by unfold forkV; rw [zy]) H2 s2)
                      | [_], zy, _, _, _ => exact iteT (bad (by unfold forkV; rw [zy]) H2 s2)
                      | _ :: _ :: _ :: _, zy, _, _, _ =>
                        refine ite2 (fun _ => bad (by unfold forkV; rw [zy]) H2 s2) (fun w' => absurd ?_ w')
                        rw [int_dec, decide_eq_false (by simp only [List.length_cons]; omega)]; rfl
                      | [u, v], zy, _, hd2, au =>
                        have e6 : forkV H i (.ref d) = (belowV i u && (belowV i v && !decide (u = v))) := by unfold forkV; rw [zy]
                        refine iteF ⟨_, rfl, d, rfl, ⟨_, SqT.of hd2⟩, fun lq hlq => ?_⟩
                        refine lc_tup (K := K) (a := d) (xs := [u, v]) (fun m acc σ H3 => (∃ v0, σ = [v0, some (.int i)]) ∧ Same H2 H3 ∧ H3 lq = some (.lst acc) ∧ acc = (([u, v].take m).map (belowV i)).map V.bl) ⟨⟨_, rfl⟩, same_new hlq _, upd_same, rfl⟩ (fun m acc σ H3 q => ⟨q.2.2.1, SqT.of (q.2.1 _ _ hd2)⟩) ?_ ?_
                        · rintro m x acc σ H3 hx ⟨⟨v0, rfl⟩, s3, h3, rfl⟩
                          have ml := (List.getElem?_eq_some_iff.mp hx).1
                          have m2 : m < 2 := by simpa using ml
                          refine ⟨_, rfl, _, rfl, _, _, rfl, rfl, x, 0, i - 1, rfl, AnyT.same (s2.trans s3) (au x (List.mem_of_getElem? hx)), ?_⟩
                          rw [btw_below]
                          refine ⟨h3, ?_, nx ml ⟨⟨_, rfl⟩, fun g o e => ?_, upd_same, ?_⟩⟩
                          · rw [List.length_map, List.length_map, List.length_take]; exact Nat.lt_of_le_of_lt (Nat.min_le_left _ _) (Nat.lt_of_lt_of_le (show m < 1000 by omega) (by decide))
                          · rw [upd_ne (ne_of_none e hlq)]; exact s3 g o e
                          · have ye : [u, v][m] = x := (List.getElem?_eq_some_iff.mp hx).2
                            rw [List.take_succ_eq_append_getElem ml, List.map_append, List.map_append, ye]; rfl
                        rintro acc σ H3 ⟨⟨v0, rfl⟩, s3, h3, rfl⟩
                        rw [List.take_length] at h3
                        have hd3 := s3 _ _ hd2
                        have s23 := s2.trans s3
                        refine ⟨lq, [u, v].map (belowV i), rfl, SqL.of h3, _, rfl, ?_⟩
                        have e7 : ([u, v].map (belowV i)).all id = (belowV i u && belowV i v) := by simp
                        rw [e7]
                        cases q1 : belowV i u with
                        | false => rw [q1] at e6; exact iteT (iteT (bad e6 H3 s23))
                        | true =>
                          cases q2 : belowV i v with
                          | false => rw [q1, q2] at e6; exact iteT (iteT (bad e6 H3 s23))
                          | true =>
                            rw [q1, q2, Bool.true_and, Bool.true_and] at e6
                            cases u with
                            | int p1 =>
                              cases v with
                              | int p2 =>
                                refine iteF ⟨_, rfl, d, _, _, _, rfl, rfl, SqT.of hd3, rfl, _, rfl, d, _, _, _, rfl, rfl, SqT.of hd3, rfl, rfl, _, rfl, ?_⟩
                                by_cases pe : V.int p1 = V.int p2
                                · rw [decide_eq_true pe] at e6 ⊢
                                  exact iteT (bad e6 H3 s23)
                                · rw [decide_eq_false pe] at e6 ⊢
                                  exact iteF ⟨⟨_, rfl⟩, s23, good e6⟩
                              | _ => cases q2
                            | _ => cases q1
                  · rintro σ H2 ⟨⟨v4, rfl⟩, s2, al2⟩
                    rw [List.take_length] at al2
                    rw [al2, Bool.true_and] at k'
                    have hc2 := s2 _ _ hc
                    have ae := (de.2 es ze).2
                    refine ⟨_, rfl, c, rfl, ⟨_, SqT.of hc2⟩, fun lq hlq => ?_⟩
                    refine lc_tup (K := K) (a := c) (xs := es) (fun m acc σ H3 => (∃ v0, σ = [v0, some (.int i)]) ∧ Same H2 H3 ∧ H3 lq = some (.lst acc) ∧ acc = ((es.take m).map (belowV i)).map V.bl) ⟨⟨_, rfl⟩, same_new hlq _, upd_same, rfl⟩ (fun m acc σ H3 q => ⟨q.2.2.1, SqT.of (q.2.1 _ _ hc2)⟩) ?_ ?_
                    · rintro m x acc σ H3 hx ⟨⟨v0, rfl⟩, s3, h3, rfl⟩
                      have ml := (List.getElem?_eq_some_iff.mp hx).1
                      refine ⟨_, rfl, _, rfl, _, _, rfl, rfl, x, 0, i - 1, rfl, AnyT.same (s2.trans s3) (ae x (List.mem_of_getElem? hx)).any, ?_⟩
                      rw [btw_below]
                      refine ⟨h3, ?_, nx ml ⟨⟨_, rfl⟩, fun g o e => ?_, upd_same, ?_⟩⟩
                      · rw [List.length_map, List.length_map, List.length_take]; exact Nat.lt_of_le_of_lt (Nat.min_le_left _ _) (Nat.lt_of_lt_of_le (show m < 1000 by omega) (by decide))
                      · rw [upd_ne (ne_of_none e hlq)]; exact s3 g o e
                      · have ye : es[m] = x := (List.getElem?_eq_some_iff.mp hx).2
                        rw [List.take_succ_eq_append_getElem ml, List.map_append, List.map_append, ye]; rfl
                    rintro acc σ H3 ⟨⟨v0, rfl⟩, s3, h3, rfl⟩
                    rw [List.take_length] at h3
                    have hc3 := s3 _ _ hc2
                    have s23 := s2.trans s3
                    refine ⟨lq, es.map (belowV i), rfl, SqL.of h3, _, rfl, ?_⟩
                    rw [List.all_map]
                    cases q1 : es.all (belowV i) with
                    | false =>
                      have kk := k' H3 s23
                      rw [q1] at kk
                      exact ite2 (fun _ => kk) (fun y => absurd (by show (!es.all (belowV i)) = true; rw [q1]; rfl) y)
                    | true =>
                      obtain ⟨ns, rfl, hn⟩ := ints_below q1
                      rw [q1, Bool.true_and] at k'
                      refine ite2 (fun y => absurd y (by show ¬ (!(ns.map V.int).all (belowV i)) = true; rw [q1]; decide)) (fun _ => ?_)
                      refine ⟨_, rfl, i, rfl, by omega, by omega, fun lr hlr => ?_⟩
                      refine lc_range (lo := 0) (n := i.toNat) (fun m acc σ H4 => (∃ v0, σ = [v0, some (.ref c)]) ∧ Same H3 H4 ∧ H4 lr = some (.lst acc) ∧ acc = ((List.range m).map fun (j : Nat) => inV (V.int j) (ns.map V.int)).map V.bl) ⟨⟨_, rfl⟩, same_new hlr _, upd_same, rfl⟩ (fun m acc σ H4 q => q.2.2.1) ?_ ?_
                      · rintro m acc σ H4 hm ⟨⟨v0, rfl⟩, s4, h4, rfl⟩
                        refine ⟨_, rfl, _, rfl, c, _, rfl, .inr (SqT.of (s4 _ _ hc3)), rfl, ?_, h4, ?_, nx hm ⟨⟨_, rfl⟩, fun g o e => ?_, upd_same, ?_⟩⟩
                        · rw [List.all_map]; exact List.all_eq_true.mpr fun _ _ => rfl
                        · rw [List.length_map, List.length_map, List.length_range]; exact Nat.lt_of_lt_of_le (show m < 1000 by omega) (by decide)
                        · rw [upd_ne (ne_of_none e hlr)]; exact s4 g o e
                        · rw [List.range_succ, List.map_append, List.map_append, Int.zero_add]; rfl
                      · rintro acc σ H4 ⟨⟨v0, rfl⟩, s4, h4, rfl⟩
                        refine ⟨lr, (List.range i.toNat).map (fun (j : Nat) => inV (V.int j) (ns.map V.int)), rfl, SqL.of h4, ?_⟩
                        rw [List.all_map]
                        exact k' H4 (s23.trans s4)
                · rw [decide_eq_false el] at k ⊢
                  rw [show (fs.all (forkV H i) && (false && es.all (belowV i) && (List.range i.toNat).all (fun (j : Nat) => inV (V.int j) es))) = false by rw [Bool.false_and, Bool.false_and, Bool.and_false]] at k
                  exact iteT k
            · rw [decide_eq_false big, Bool.false_and, Bool.false_and] at k
              rw [decide_eq_true (show (128 : Int) < fs.length by omega)]
              exact iteT (iteT k)
      | _ =>
        have e2 : netV H (.ref a) = false := by unfold netV; rw [z]
        rw [e2] at k; exact iteT k
end
end K01
end
section
set_option maxHeartbeats 4000001
namespace K01
open PySem L2 Own Bn
abbrev sOdd : Stmt := top 17
theorem SqL.same {K : PySem.W.Frag} {H H' : Hp} {a : Addr} {xs : List V} (s : Same H H') (h : SqL K H a xs) : SqL K H' a xs := by
  rcases h with (h | ⟨o, h⟩) | h
  · exact .inl (.inl (s _ _ h))
  · exact .inl (.inr ⟨o, s _ _ h⟩)
  · exact .inr h
def spOdd (K : PySem.W.Frag) : Sp := fun vs H Q _ => vs = [] ∧ ∀ l xs H', Same H H' → H' l = some (.lst xs) → xs.length ≤ 100 → (∀ y ∈ xs, Mk K H' 130 4 y) → Q (.ref l) H'
section
variable {P : Program} {w : World} {K : PySem.W.Frag} {mg : Str → Option Value} {base : Heap}
theorem scOd : FnScope ["_law_some"] [] (defScope sOdd) := ⟨rfl, rfl, rfl, by decide +kernel, rfl, by decide +kernel, by decide +kernel⟩
theorem ok_odd {f : Addr} {fd : FuncData} (F : Fun K "_law_odd" "_law_odd" sOdd f fd) (G : Mgs mg) : FnOk P w K mg base CX0 1 f fd [] (spOdd K) := by
  refine F.ok scOd (fun vs H Q E h => ?_) (fun cdv A outer s H vs Q E hr h => ?_)
  · obtain ⟨rfl, _⟩ := h
    rfl
  obtain ⟨rfl, k⟩ := h
  refine ⟨_, (@pss_cons _ _ _ _ _ (@ps_set _ _ 0 _ _ _ _ scOd.nd rfl (Or.inl rfl) (@pe_lst _ _ _ _ (@pa_cons _ _ _ _ _ pe_non (@pa_cons _ _ _ _ _ pe_bl (@pa_cons _ _ _ _ _ pe_bl (@pa_cons _ _ _ _ _ pe_int (@pa_cons _ _ _ _ _ pe_int (@pa_cons _ _ _ _ _ (@pe_un _ _ _ _ _ _ un_neg pe_int) (@pa_cons _ _ _ _ _ pe_str (@pa_cons _ _ _ _ _ pe_str (@pa_cons _ _ _ _ _ (@pe_tup _ _ _ _ _ pa_nil) (@pa_cons _ _ _ _ _ (@pe_lst _ _ _ _ pa_nil) (@pa_cons _ _ _ _ _ pe_dnewK (@pa_cons _ _ _ _ _ (@pe_tup _ _ _ _ _ (@pa_cons _ _ _ _ _ pe_int pa_nil (by rfl))) (@pa_cons _ _ _ _ _ (@pe_tup _ _ _ _ _ (@pa_cons _ _ _ _ _ pe_int (@pa_cons _ _ _ _ _ (@pe_tup _ _ _ _ _ pa_nil) (@pa_cons _ _ _ _ _ (@pe_tup _ _ _ _ _ pa_nil) pa_nil (by rfl)) (by rfl)) (by rfl))) (@pa_cons _ _ _ _ _ (@pe_tup _ _ _ _ _ (@pa_cons _ _ _ _ _ pe_int (@pa_cons _ _ _ _ _ (@pe_tup _ _ _ _ _ pa_nil) (@pa_cons _ _ _ _ _ (@pe_tup _ _ _ _ _ pa_nil) pa_nil (by rfl)) (by rfl)) (by rfl))) (@pa_cons _ _ _ _ _ (@pe_tup _ _ _ _ _ (@pa_cons _ _ _ _ _ pe_int (@pa_cons _ _ _ _ _ (@pe_tup _ _ _ _ _ pa_nil) (@pa_cons _ _ _ _ _ (@pe_lst _ _ _ _ (@pa_cons _ _ _ _ _ pe_int pa_nil (by rfl))) pa_nil (by rfl)) (by rfl)) (by rfl))) pa_nil (by rfl)) (by rfl)) (by rfl)) (by rfl)) (by rfl)) (by rfl)) (by rfl)) (by rfl)) (by rfl)) (by rfl)) (by rfl)) (by rfl)) (by rfl)) (by rfl)) (by rfl))) (by rfl) (by first | exact .inl rfl | exact .inr rfl | assumption)) (@pss_cons _ _ _ _ _ (@ps_set _ _ 0 _ _ _ _ scOd.nd rfl (Or.inl rfl) (@pe_op _ _ _ _ _ _ _ _ op_cat (@pv _ 0 _ _ (by rfl) (by first | exact Or.inl rfl | exact Or.inr (Or.inl rfl) | exact Or.inr (Or.inr rfl)) (by decide) (by decide)) (@pe_lst _ _ _ _ (@pa_cons _ _ _ _ _ (@pe_lst _ _ _ _ (@pa_cons _ _ _ _ _ pe_int (@pa_cons _ _ _ _ _ (@pe_tup _ _ _ _ _ pa_nil) (@pa_cons _ _ _ _ _ (@pe_tup _ _ _ _ _ (@pa_cons _ _ _ _ _ pe_int pa_nil (by rfl))) pa_nil (by rfl)) (by rfl)) (by rfl))) pa_nil (by rfl)))) (by rfl) (by first | exact .inl rfl | exact .inr rfl | assumption)) (@pss_cons _ _ _ _ _ (@ps_set _ _ 0 _ _ _ _ scOd.nd rfl (Or.inl rfl) (@pe_op _ _ _ _ _ _ _ _ op_cat (@pv _ 0 _ _ (by rfl) (by first | exact Or.inl rfl | exact Or.inr (Or.inl rfl) | exact Or.inr (Or.inr rfl)) (by decide) (by decide)) (@pe_lst _ _ _ _ (@pa_cons _ _ _ _ _ (@pe_tup _ _ _ _ _ (@pa_cons _ _ _ _ _ pe_int (@pa_cons _ _ _ _ _ (@pe_lst _ _ _ _ pa_nil) (@pa_cons _ _ _ _ _ (@pe_tup _ _ _ _ _ (@pa_cons _ _ _ _ _ pe_int pa_nil (by rfl))) pa_nil (by rfl)) (by rfl)) (by rfl))) (@pa_cons _ _ _ _ _ (@pe_tup _ _ _ _ _ (@pa_cons _ _ _ _ _ pe_bl (@pa_cons _ _ _ _ _ (@pe_tup _ _ _ _ _ pa_nil) (@pa_cons _ _ _ _ _ (@pe_tup _ _ _ _ _ (@pa_cons _ _ _ _ _ pe_int pa_nil (by rfl))) pa_nil (by rfl)) (by rfl)) (by rfl))) (@pa_cons _ _ _ _ _ (@pe_tup _ _ _ _ _ (@pa_cons _ _ _ _ _ pe_int (@pa_cons _ _ _ _ _ (@pe_tup _ _ _ _ _ (@pa_cons _ _ _ _ _ (@pe_tup _ _ _ _ _ (@pa_cons _ _ _ _ _ pe_int (@pa_cons _ _ _ _ _ pe_int pa_nil (by rfl)) (by rfl))) pa_nil (by rfl))) (@pa_cons _ _ _ _ _ (@pe_tup _ _ _ _ _ (@pa_cons _ _ _ _ _ pe_int (@pa_cons _ _ _ _ _ pe_int pa_nil (by rfl)) (by rfl))) pa_nil (by rfl)) (by rfl)) (by rfl))) (@pa_cons _ _ _ _ _ (@pe_tup _ _ _ _ _ (@pa_cons _ _ _ _ _ pe_int (@pa_cons _ _ _ _ _ (@pe_tup _ _ _ _ _ (@pa_cons _ _ _ _ _ (@pe_tup _ _ _ _ _ (@pa_cons _ _ _ _ _ pe_int (@pa_cons _ _ _ _ _ pe_int pa_nil (by rfl)) (by rfl))) pa_nil (by rfl))) (@pa_cons _ _ _ _ _ (@pe_tup _ _ _ _ _ (@pa_cons _ _ _ _ _ pe_int (@pa_cons _ _ _ _ _ pe_int pa_nil (by rfl)) (by rfl))) pa_nil (by rfl)) (by rfl)) (by rfl))) pa_nil (by rfl)) (by rfl)) (by rfl)) (by rfl)))) (by rfl) (by first | exact .inl rfl | exact .inr rfl | assumption)) (@pss_cons _ _ _ _ _ (@ps_set _ _ 0 _ _ _ _ scOd.nd rfl (Or.inl rfl) (@pe_op _ _ _ _ _ _ _ _ op_cat (@pv _ 0 _ _ (by rfl) (by first | exact Or.inl rfl | exact Or.inr (Or.inl rfl) | exact Or.inr (Or.inr rfl)) (by decide) (by decide)) (@pe_lst _ _ _ _ (@pa_cons _ _ _ _ _ (@pe_tup _ _ _ _ _ (@pa_cons _ _ _ _ _ pe_int (@pa_cons _ _ _ _ _ (@pe_tup _ _ _ _ _ (@pa_cons _ _ _ _ _ (@pe_tup _ _ _ _ _ (@pa_cons _ _ _ _ _ pe_int (@pa_cons _ _ _ _ _ pe_int pa_nil (by rfl)) (by rfl))) pa_nil (by rfl))) (@pa_cons _ _ _ _ _ (@pe_tup _ _ _ _ _ (@pa_cons _ _ _ _ _ pe_int (@pa_cons _ _ _ _ _ pe_int pa_nil (by rfl)) (by rfl))) pa_nil (by rfl)) (by rfl)) (by rfl))) pa_nil (by rfl)))) (by rfl) (by first | exact .inl rfl | exact .inr rfl | assumption)) (@pss_cons _ _ _ _ _ (@ps_set _ _ 0 _ _ _ _ scOd.nd rfl (Or.inl rfl) (@pe_op _ _ _ _ _ _ _ _ op_cat (@pv _ 0 _ _ (by rfl) (by first | exact Or.inl rfl | exact Or.inr (Or.inl rfl) | exact Or.inr (Or.inr rfl)) (by decide) (by decide)) (@pe_lst _ _ _ _ (@pa_cons _ _ _ _ _ (@pe_tup _ _ _ _ _ (@pa_cons _ _ _ _ _ pe_int (@pa_cons _ _ _ _ _ (@pe_tup _ _ _ _ _ (@pa_cons _ _ _ _ _ (@pe_tup _ _ _ _ _ (@pa_cons _ _ _ _ _ pe_int (@pa_cons _ _ _ _ _ pe_bl pa_nil (by rfl)) (by rfl))) pa_nil (by rfl))) (@pa_cons _ _ _ _ _ (@pe_tup _ _ _ _ _ (@pa_cons _ _ _ _ _ pe_int (@pa_cons _ _ _ _ _ pe_int pa_nil (by rfl)) (by rfl))) pa_nil (by rfl)) (by rfl)) (by rfl))) (@pa_cons _ _ _ _ _ (@pe_tup _ _ _ _ _ (@pa_cons _ _ _ _ _ pe_int (@pa_cons _ _ _ _ _ (@pe_tup _ _ _ _ _ (@pa_cons _ _ _ _ _ (@pe_lst _ _ _ _ (@pa_cons _ _ _ _ _ pe_int (@pa_cons _ _ _ _ _ pe_int pa_nil (by rfl)) (by rfl))) pa_nil (by rfl))) (@pa_cons _ _ _ _ _ (@pe_tup _ _ _ _ _ (@pa_cons _ _ _ _ _ pe_int (@pa_cons _ _ _ _ _ pe_int pa_nil (by rfl)) (by rfl))) pa_nil (by rfl)) (by rfl)) (by rfl))) (@pa_cons _ _ _ _ _ (@pe_tup _ _ _ _ _ (@pa_cons _ _ _ _ _ pe_int (@pa_cons _ _ _ _ _ (@pe_tup _ _ _ _ _ (@pa_cons _ _ _ _ _ (@pe_tup _ _ _ _ _ (@pa_cons _ _ _ _ _ pe_int (@pa_cons _ _ _ _ _ pe_int (@pa_cons _ _ _ _ _ pe_int pa_nil (by rfl)) (by rfl)) (by rfl))) pa_nil (by rfl))) (@pa_cons _ _ _ _ _ (@pe_tup _ _ _ _ _ (@pa_cons _ _ _ _ _ pe_int (@pa_cons _ _ _ _ _ pe_int pa_nil (by rfl)) (by rfl))) pa_nil (by rfl)) (by rfl)) (by rfl))) (@pa_cons _ _ _ _ _ (@pe_tup _ _ _ _ _ (@pa_cons _ _ _ _ _ pe_int (@pa_cons _ _ _ _ _ (@pe_tup _ _ _ _ _ (@pa_cons _ _ _ _ _ pe_int (@pa_cons _ _ _ _ _ pe_int pa_nil (by rfl)) (by rfl))) (@pa_cons _ _ _ _ _ (@pe_tup _ _ _ _ _ (@pa_cons _ _ _ _ _ pe_int (@pa_cons _ _ _ _ _ pe_int pa_nil (by rfl)) (by rfl))) pa_nil (by rfl)) (by rfl)) (by rfl))) pa_nil (by rfl)) (by rfl)) (by rfl)) (by rfl)))) (by rfl) (by first | exact .inl rfl | exact .inr rfl | assumption)) (@pss_cons _ _ _ _ _ (@ps_set _ _ 0 _ _ _ _ scOd.nd rfl (Or.inl rfl) (@pe_op _ _ _ _ _ _ _ _ op_cat (@pv _ 0 _ _ (by rfl) (by first | exact Or.inl rfl | exact Or.inr (Or.inl rfl) | exact Or.inr (Or.inr rfl)) (by decide) (by decide)) (@pe_lst _ _ _ _ (@pa_cons _ _ _ _ _ (@pe_tup _ _ _ _ _ (@pa_cons _ _ _ _ _ pe_int (@pa_cons _ _ _ _ _ pe_non (@pa_cons _ _ _ _ _ (@pe_tup _ _ _ _ _ (@pa_cons _ _ _ _ _ pe_int (@pa_cons _ _ _ _ _ pe_int pa_nil (by rfl)) (by rfl))) pa_nil (by rfl)) (by rfl)) (by rfl))) (@pa_cons _ _ _ _ _ (@pe_tup _ _ _ _ _ (@pa_cons _ _ _ _ _ pe_int (@pa_cons _ _ _ _ _ (@pe_tup _ _ _ _ _ pa_nil) (@pa_cons _ _ _ _ _ (@pe_tupRng _ _ _ _ _ _ _ rfl (by rfl) G.tuple (by rfl) G.range (@pa_cons _ _ _ _ _ pe_int pa_nil (by rfl)) (by rfl) (by rfl)) pa_nil (by rfl)) (by rfl)) (by rfl))) (@pa_cons _ _ _ _ _ (@pe_tup _ _ _ _ _ (@pa_cons _ _ _ _ _ pe_int (@pa_cons _ _ _ _ _ (@pe_tup _ _ _ _ _ pa_nil) (@pa_cons _ _ _ _ _ (@pe_tup _ _ _ _ _ (@pa_cons _ _ _ _ _ pe_int (@pa_cons _ _ _ _ _ pe_int pa_nil (by rfl)) (by rfl))) (@pa_cons _ _ _ _ _ (@pe_tup _ _ _ _ _ pa_nil) pa_nil (by rfl)) (by rfl)) (by rfl)) (by rfl))) (@pa_cons _ _ _ _ _ (@pe_tup _ _ _ _ _ (@pa_cons _ _ _ _ _ pe_int (@pa_cons _ _ _ _ _ (@pe_tup _ _ _ _ _ pa_nil) pa_nil (by rfl)) (by rfl))) (@pa_cons _ _ _ _ _ (@pe_tup _ _ _ _ _ (@pa_cons _ _ _ _ _ (@pe_tup _ _ _ _ _ (@pa_cons _ _ _ _ _ pe_int (@pa_cons _ _ _ _ _ (@pe_tup _ _ _ _ _ pa_nil) (@pa_cons _ _ _ _ _ (@pe_tup _ _ _ _ _ (@pa_cons _ _ _ _ _ pe_int pa_nil (by rfl))) pa_nil (by rfl)) (by rfl)) (by rfl))) pa_nil (by rfl))) pa_nil (by rfl)) (by rfl)) (by rfl)) (by rfl)) (by rfl)))) (by rfl) (by first | exact .inl rfl | exact .inr rfl | assumption)) (@pss_one _ _ _ (@ps_ret _ _ _ _ (@pe_op _ _ _ _ _ _ _ _ op_cat (@pv _ 0 _ _ (by rfl) (by first | exact Or.inl rfl | exact Or.inr (Or.inl rfl) | exact Or.inr (Or.inr rfl)) (by decide) (by decide)) (@pe_lst _ _ _ _ (@pa_cons _ _ _ _ _ pe_str pa_nil (by rfl)))))))))))), ?_⟩
  refine ⟨_, rfl, ?_⟩
  refine ⟨(by show 0 ≤ sizeLine; decide), fun t1 h1 => ?_⟩
  have s1 := same_new h1 (.tup [])
  have m1 : Mk K _ 130 1 (.ref t1) := Mk.new (xs := []) h1 (by show 0 ≤ 130; decide) (fun y hy => by simp at hy)
  refine ⟨(by show 0 ≤ sizeLine; decide), fun t2 h2 => ?_⟩
  have s2 := same_new h2 (.lst [])
  have m2 : Mk K _ 130 0 (.ref t2) := Mk.lstN h2 []
  refine fun t3 h3 => ?_
  have s3 := same_new h3 (.dK [])
  have m3 : Mk K _ 130 0 (.ref t3) := Mk.dictN h3
  refine ⟨(by show 1 ≤ sizeLine; decide), fun t4 h4 => ?_⟩
  have s4 := same_new h4 (.tup [.int 1])
  have m4 : Mk K _ 130 1 (.ref t4) := Mk.new (xs := [.int 1]) h4 (by show 1 ≤ 130; decide) (fun y hy => by
      simp only [List.mem_cons, List.mem_nil_iff, or_false] at hy
      obtain rfl := hy
      exact Mk.int _)
  refine ⟨(by show 0 ≤ sizeLine; decide), fun t5 h5 => ?_⟩
  have s5 := same_new h5 (.tup [])
  have m5 : Mk K _ 130 1 (.ref t5) := Mk.new (xs := []) h5 (by show 0 ≤ 130; decide) (fun y hy => by simp at hy)
  refine ⟨(by show 0 ≤ sizeLine; decide), fun t6 h6 => ?_⟩
  have s6 := same_new h6 (.tup [])
  have m6 : Mk K _ 130 1 (.ref t6) := Mk.new (xs := []) h6 (by show 0 ≤ 130; decide) (fun y hy => by simp at hy)
  refine ⟨(by show 3 ≤ sizeLine; decide), fun t7 h7 => ?_⟩
  have s7 := same_new h7 (.tup [.int 1, .ref t5, .ref t6])
  have m7 : Mk K _ 130 2 (.ref t7) := Mk.new (xs := [.int 1, .ref t5, .ref t6]) h7 (by show 3 ≤ 130; decide) (fun y hy => by
      simp only [List.mem_cons, List.mem_nil_iff, or_false] at hy
      rcases hy with rfl | rfl | rfl
      · exact Mk.int _
      · exact (Mk.more (Nat.le_refl _) (by decide) (Mk.same s6 m5))
      · exact (Mk.more (Nat.le_refl _) (by decide) m6))
  refine ⟨(by show 0 ≤ sizeLine; decide), fun t8 h8 => ?_⟩
  have s8 := same_new h8 (.tup [])
  have m8 : Mk K _ 130 1 (.ref t8) := Mk.new (xs := []) h8 (by show 0 ≤ 130; decide) (fun y hy => by simp at hy)
  refine ⟨(by show 0 ≤ sizeLine; decide), fun t9 h9 => ?_⟩
  have s9 := same_new h9 (.tup [])
  have m9 : Mk K _ 130 1 (.ref t9) := Mk.new (xs := []) h9 (by show 0 ≤ 130; decide) (fun y hy => by simp at hy)
  refine ⟨(by show 3 ≤ sizeLine; decide), fun t10 h10 => ?_⟩
  have s10 := same_new h10 (.tup [.int 0, .ref t8, .ref t9])
  have m10 : Mk K _ 130 2 (.ref t10) := Mk.new (xs := [.int 0, .ref t8, .ref t9]) h10 (by show 3 ≤ 130; decide) (fun y hy => by
      simp only [List.mem_cons, List.mem_nil_iff, or_false] at hy
      rcases hy with rfl | rfl | rfl
      · exact Mk.int _
      · exact (Mk.more (Nat.le_refl _) (by decide) (Mk.same s9 m8))
      · exact (Mk.more (Nat.le_refl _) (by decide) m9))
  refine ⟨(by show 0 ≤ sizeLine; decide), fun t11 h11 => ?_⟩
  have s11 := same_new h11 (.tup [])
  have m11 : Mk K _ 130 1 (.ref t11) := Mk.new (xs := []) h11 (by show 0 ≤ 130; decide) (fun y hy => by simp at hy)
  refine ⟨(by show 1 ≤ sizeLine; decide), fun t12 h12 => ?_⟩
  have s12 := same_new h12 (.lst [.int 0])
  have m12 : Mk K _ 130 0 (.ref t12) := Mk.lstN h12 [.int 0]
  refine ⟨(by show 3 ≤ sizeLine; decide), fun t13 h13 => ?_⟩
  have s13 := same_new h13 (.tup [.int 1, .ref t11, .ref t12])
  have m13 : Mk K _ 130 2 (.ref t13) := Mk.new (xs := [.int 1, .ref t11, .ref t12]) h13 (by show 3 ≤ 130; decide) (fun y hy => by
      simp only [List.mem_cons, List.mem_nil_iff, or_false] at hy
      rcases hy with rfl | rfl | rfl
      · exact Mk.int _
      · exact (Mk.more (Nat.le_refl _) (by decide) (Mk.same s12 m11))
      · exact (Mk.more (Nat.le_refl _) (by decide) m12))
  refine ⟨(by show 15 ≤ sizeLine; decide), fun t14 h14 => ?_⟩
  have s14 := same_new h14 (.lst [.non, .bl true, .bl false, .int 0, .int 1, .int (-1), .str "", .str "net", .ref t1, .ref t2, .ref t3, .ref t4, .ref t7, .ref t10, .ref t13])
  have g0 : ∀ y ∈ ([.non, .bl true, .bl false, .int 0, .int 1, .int (-1), .str "", .str "net", .ref t1, .ref t2, .ref t3, .ref t4, .ref t7, .ref t10, .ref t13] : List V), Mk K _ 130 4 y := fun y hy => by
    simp only [List.mem_cons, List.mem_nil_iff, or_false] at hy
    rcases hy with rfl | rfl | rfl | rfl | rfl | rfl | rfl | rfl | rfl | rfl | rfl | rfl | rfl | rfl | rfl
    · exact (Mk.same s14 (Mk.non))
    · exact (Mk.same s14 (Mk.bl _))
    · exact (Mk.same s14 (Mk.bl _))
    · exact (Mk.same s14 (Mk.int _))
    · exact (Mk.same s14 (Mk.int _))
    · exact (Mk.same s14 (Mk.int _))
    · exact (Mk.same s14 (Mk.str _))
    · exact (Mk.same s14 (Mk.str _))
    · exact (Mk.more (Nat.le_refl _) (by decide) (Mk.same ((((((((((((s2.trans s3).trans s4).trans s5).trans s6).trans s7).trans s8).trans s9).trans s10).trans s11).trans s12).trans s13).trans s14) m1))
    · exact (Mk.more (Nat.le_refl _) (by decide) (Mk.same (((((((((((s3.trans s4).trans s5).trans s6).trans s7).trans s8).trans s9).trans s10).trans s11).trans s12).trans s13).trans s14) m2))
    · exact (Mk.more (Nat.le_refl _) (by decide) (Mk.same ((((((((((s4.trans s5).trans s6).trans s7).trans s8).trans s9).trans s10).trans s11).trans s12).trans s13).trans s14) m3))
    · exact (Mk.more (Nat.le_refl _) (by decide) (Mk.same (((((((((s5.trans s6).trans s7).trans s8).trans s9).trans s10).trans s11).trans s12).trans s13).trans s14) m4))
    · exact (Mk.more (Nat.le_refl _) (by decide) (Mk.same ((((((s8.trans s9).trans s10).trans s11).trans s12).trans s13).trans s14) m7))
    · exact (Mk.more (Nat.le_refl _) (by decide) (Mk.same (((s11.trans s12).trans s13).trans s14) m10))
    · exact (Mk.more (Nat.le_refl _) (by decide) (Mk.same s14 m13))
  have n0 := newAt h14 (.lst [.non, .bl true, .bl false, .int 0, .int 1, .int (-1), .str "", .str "net", .ref t1, .ref t2, .ref t3, .ref t4, .ref t7, .ref t10, .ref t13])
  have u0 := (((((((((((((s1.trans s2).trans s3).trans s4).trans s5).trans s6).trans s7).trans s8).trans s9).trans s10).trans s11).trans s12).trans s13).trans s14)
  have q0 : ∃ X : List V, X.length ≤ 15 ∧ _ = some (HO.lst X) ∧ ∀ y ∈ X, Mk K _ 130 4 y := ⟨_, (by show 15 ≤ 15; decide), n0, g0⟩
  obtain ⟨X0, c0, a0, b0⟩ := q0
  refine ⟨_, rfl, ?_⟩
  refine ⟨(by show 0 ≤ sizeLine; decide), fun t15 h15 => ?_⟩
  have s15 := same_new h15 (.tup [])
  have m15 : Mk K _ 130 1 (.ref t15) := Mk.new (xs := []) h15 (by show 0 ≤ 130; decide) (fun y hy => by simp at hy)
  refine ⟨(by show 1 ≤ sizeLine; decide), fun t16 h16 => ?_⟩
  have s16 := same_new h16 (.tup [.int 0])
  have m16 : Mk K _ 130 1 (.ref t16) := Mk.new (xs := [.int 0]) h16 (by show 1 ≤ 130; decide) (fun y hy => by
      simp only [List.mem_cons, List.mem_nil_iff, or_false] at hy
      obtain rfl := hy
      exact Mk.int _)
  refine ⟨(by show 3 ≤ sizeLine; decide), fun t17 h17 => ?_⟩
  have s17 := same_new h17 (.lst [.int 1, .ref t15, .ref t16])
  have m17 : Mk K _ 130 0 (.ref t17) := Mk.lstN h17 [.int 1, .ref t15, .ref t16]
  refine ⟨(by show 1 ≤ sizeLine; decide), fun t18 h18 => ?_⟩
  have s18 := same_new h18 (.lst [.ref t17])
  have g1 : ∀ y ∈ ([.ref t17] : List V), Mk K _ 130 4 y := fun y hy => by
    simp only [List.mem_cons, List.mem_nil_iff, or_false] at hy
    obtain rfl := hy
    exact (Mk.more (Nat.le_refl _) (by decide) (Mk.same s18 m17))
  have n1 := newAt h18 (.lst [.ref t17])
  have w1 := (((s15.trans s16).trans s17).trans s18)
  refine ⟨t14, t18, X0, _, rfl, rfl, w1 _ _ a0, n1, Nat.le_trans (show _ + 1 ≤ 1000 by omega) (by decide), fun p1 hp1 => ?_⟩
  have v1 := same_new hp1 (.lst (X0 ++ [.ref t17]))
  have u1 := (u0.trans w1).trans v1
  have q1 : ∃ X : List V, X.length ≤ 16 ∧ _ = some (HO.lst X) ∧ ∀ y ∈ X, Mk K _ 130 4 y := ⟨_, by rw [List.length_append]; show _ + 1 ≤ _; omega, newAt hp1 (.lst (X0 ++ [.ref t17])), fun y hy => (List.mem_append.mp hy).elim (fun z => Mk.same (w1.trans v1) (b0 y z)) (fun z => Mk.same v1 (g1 y z))⟩
  obtain ⟨X1, c1, a1, b1⟩ := q1
  refine ⟨_, rfl, ?_⟩
  refine ⟨(by show 0 ≤ sizeLine; decide), fun t19 h19 => ?_⟩
  have s19 := same_new h19 (.lst [])
  have m19 : Mk K _ 130 0 (.ref t19) := Mk.lstN h19 []
  refine ⟨(by show 1 ≤ sizeLine; decide), fun t20 h20 => ?_⟩
  have s20 := same_new h20 (.tup [.int 0])
  have m20 : Mk K _ 130 1 (.ref t20) := Mk.new (xs := [.int 0]) h20 (by show 1 ≤ 130; decide) (fun y hy => by
      simp only [List.mem_cons, List.mem_nil_iff, or_false] at hy
      obtain rfl := hy
      exact Mk.int _)
  refine ⟨(by show 3 ≤ sizeLine; decide), fun t21 h21 => ?_⟩
  have s21 := same_new h21 (.tup [.int 1, .ref t19, .ref t20])
  have m21 : Mk K _ 130 2 (.ref t21) := Mk.new (xs := [.int 1, .ref t19, .ref t20]) h21 (by show 3 ≤ 130; decide) (fun y hy => by
      simp only [List.mem_cons, List.mem_nil_iff, or_false] at hy
      rcases hy with rfl | rfl | rfl
      · exact Mk.int _
      · exact (Mk.more (Nat.le_refl _) (by decide) (Mk.same s20 m19))
      · exact (Mk.more (Nat.le_refl _) (by decide) m20))
  refine ⟨(by show 0 ≤ sizeLine; decide), fun t22 h22 => ?_⟩
  have s22 := same_new h22 (.tup [])
  have m22 : Mk K _ 130 1 (.ref t22) := Mk.new (xs := []) h22 (by show 0 ≤ 130; decide) (fun y hy => by simp at hy)
  refine ⟨(by show 1 ≤ sizeLine; decide), fun t23 h23 => ?_⟩
  have s23 := same_new h23 (.tup [.int 0])
  have m23 : Mk K _ 130 1 (.ref t23) := Mk.new (xs := [.int 0]) h23 (by show 1 ≤ 130; decide) (fun y hy => by
      simp only [List.mem_cons, List.mem_nil_iff, or_false] at hy
      obtain rfl := hy
      exact Mk.int _)
  refine ⟨(by show 3 ≤ sizeLine; decide), fun t24 h24 => ?_⟩
  have s24 := same_new h24 (.tup [.bl true, .ref t22, .ref t23])
  have m24 : Mk K _ 130 2 (.ref t24) := Mk.new (xs := [.bl true, .ref t22, .ref t23]) h24 (by show 3 ≤ 130; decide) (fun y hy => by
      simp only [List.mem_cons, List.mem_nil_iff, or_false] at hy
      rcases hy with rfl | rfl | rfl
      · exact Mk.bl _
      · exact (Mk.more (Nat.le_refl _) (by decide) (Mk.same s23 m22))
      · exact (Mk.more (Nat.le_refl _) (by decide) m23))
  refine ⟨(by show 2 ≤ sizeLine; decide), fun t25 h25 => ?_⟩
  have s25 := same_new h25 (.tup [.int 0, .int 0])
  have m25 : Mk K _ 130 1 (.ref t25) := Mk.new (xs := [.int 0, .int 0]) h25 (by show 2 ≤ 130; decide) (fun y hy => by
      simp only [List.mem_cons, List.mem_nil_iff, or_false] at hy
      rcases hy with rfl | rfl
      · exact Mk.int _
      · exact Mk.int _)
  refine ⟨(by show 1 ≤ sizeLine; decide), fun t26 h26 => ?_⟩
  have s26 := same_new h26 (.tup [.ref t25])
  have m26 : Mk K _ 130 2 (.ref t26) := Mk.new (xs := [.ref t25]) h26 (by show 1 ≤ 130; decide) (fun y hy => by
      simp only [List.mem_cons, List.mem_nil_iff, or_false] at hy
      obtain rfl := hy
      exact (Mk.more (Nat.le_refl _) (by decide) m25))
  refine ⟨(by show 2 ≤ sizeLine; decide), fun t27 h27 => ?_⟩
  have s27 := same_new h27 (.tup [.int 0, .int 1])
  have m27 : Mk K _ 130 1 (.ref t27) := Mk.new (xs := [.int 0, .int 1]) h27 (by show 2 ≤ 130; decide) (fun y hy => by
      simp only [List.mem_cons, List.mem_nil_iff, or_false] at hy
      rcases hy with rfl | rfl
      · exact Mk.int _
      · exact Mk.int _)
  refine ⟨(by show 3 ≤ sizeLine; decide), fun t28 h28 => ?_⟩
  have s28 := same_new h28 (.tup [.int 2, .ref t26, .ref t27])
  have m28 : Mk K _ 130 3 (.ref t28) := Mk.new (xs := [.int 2, .ref t26, .ref t27]) h28 (by show 3 ≤ 130; decide) (fun y hy => by
      simp only [List.mem_cons, List.mem_nil_iff, or_false] at hy
      rcases hy with rfl | rfl | rfl
      · exact Mk.int _
      · exact (Mk.more (Nat.le_refl _) (by decide) (Mk.same s27 m26))
      · exact (Mk.more (Nat.le_refl _) (by decide) m27))
  refine ⟨(by show 2 ≤ sizeLine; decide), fun t29 h29 => ?_⟩
  have s29 := same_new h29 (.tup [.int 0, .int 1])
  have m29 : Mk K _ 130 1 (.ref t29) := Mk.new (xs := [.int 0, .int 1]) h29 (by show 2 ≤ 130; decide) (fun y hy => by
      simp only [List.mem_cons, List.mem_nil_iff, or_false] at hy
      rcases hy with rfl | rfl
      · exact Mk.int _
      · exact Mk.int _)
  refine ⟨(by show 1 ≤ sizeLine; decide), fun t30 h30 => ?_⟩
  have s30 := same_new h30 (.tup [.ref t29])
  have m30 : Mk K _ 130 2 (.ref t30) := Mk.new (xs := [.ref t29]) h30 (by show 1 ≤ 130; decide) (fun y hy => by
      simp only [List.mem_cons, List.mem_nil_iff, or_false] at hy
      obtain rfl := hy
      exact (Mk.more (Nat.le_refl _) (by decide) m29))
  refine ⟨(by show 2 ≤ sizeLine; decide), fun t31 h31 => ?_⟩
  have s31 := same_new h31 (.tup [.int 0, .int 0])
  have m31 : Mk K _ 130 1 (.ref t31) := Mk.new (xs := [.int 0, .int 0]) h31 (by show 2 ≤ 130; decide) (fun y hy => by
      simp only [List.mem_cons, List.mem_nil_iff, or_false] at hy
      rcases hy with rfl | rfl
      · exact Mk.int _
      · exact Mk.int _)
  refine ⟨(by show 3 ≤ sizeLine; decide), fun t32 h32 => ?_⟩
  have s32 := same_new h32 (.tup [.int 2, .ref t30, .ref t31])
  have m32 : Mk K _ 130 3 (.ref t32) := Mk.new (xs := [.int 2, .ref t30, .ref t31]) h32 (by show 3 ≤ 130; decide) (fun y hy => by
      simp only [List.mem_cons, List.mem_nil_iff, or_false] at hy
      rcases hy with rfl | rfl | rfl
      · exact Mk.int _
      · exact (Mk.more (Nat.le_refl _) (by decide) (Mk.same s31 m30))
      · exact (Mk.more (Nat.le_refl _) (by decide) m31))
  refine ⟨(by show 4 ≤ sizeLine; decide), fun t33 h33 => ?_⟩
  have s33 := same_new h33 (.lst [.ref t21, .ref t24, .ref t28, .ref t32])
  have g2 : ∀ y ∈ ([.ref t21, .ref t24, .ref t28, .ref t32] : List V), Mk K _ 130 4 y := fun y hy => by
    simp only [List.mem_cons, List.mem_nil_iff, or_false] at hy
    rcases hy with rfl | rfl | rfl | rfl
    · exact (Mk.more (Nat.le_refl _) (by decide) (Mk.same (((((((((((s22.trans s23).trans s24).trans s25).trans s26).trans s27).trans s28).trans s29).trans s30).trans s31).trans s32).trans s33) m21))
    · exact (Mk.more (Nat.le_refl _) (by decide) (Mk.same ((((((((s25.trans s26).trans s27).trans s28).trans s29).trans s30).trans s31).trans s32).trans s33) m24))
    · exact (Mk.more (Nat.le_refl _) (by decide) (Mk.same ((((s29.trans s30).trans s31).trans s32).trans s33) m28))
    · exact (Mk.more (Nat.le_refl _) (by decide) (Mk.same s33 m32))
  have n2 := newAt h33 (.lst [.ref t21, .ref t24, .ref t28, .ref t32])
  have w2 := ((((((((((((((s19.trans s20).trans s21).trans s22).trans s23).trans s24).trans s25).trans s26).trans s27).trans s28).trans s29).trans s30).trans s31).trans s32).trans s33)
  refine ⟨p1, t33, X1, _, rfl, rfl, w2 _ _ a1, n2, Nat.le_trans (show _ + 4 ≤ 1000 by omega) (by decide), fun p2 hp2 => ?_⟩
  have v2 := same_new hp2 (.lst (X1 ++ [.ref t21, .ref t24, .ref t28, .ref t32]))
  have u2 := (u1.trans w2).trans v2
  have q2 : ∃ X : List V, X.length ≤ 20 ∧ _ = some (HO.lst X) ∧ ∀ y ∈ X, Mk K _ 130 4 y := ⟨_, by rw [List.length_append]; show _ + 4 ≤ _; omega, newAt hp2 (.lst (X1 ++ [.ref t21, .ref t24, .ref t28, .ref t32])), fun y hy => (List.mem_append.mp hy).elim (fun z => Mk.same (w2.trans v2) (b1 y z)) (fun z => Mk.same v2 (g2 y z))⟩
  obtain ⟨X2, c2, a2, b2⟩ := q2
  refine ⟨_, rfl, ?_⟩
  refine ⟨(by show 2 ≤ sizeLine; decide), fun t34 h34 => ?_⟩
  have s34 := same_new h34 (.tup [.int 0, .int 2])
  have m34 : Mk K _ 130 1 (.ref t34) := Mk.new (xs := [.int 0, .int 2]) h34 (by show 2 ≤ 130; decide) (fun y hy => by
      simp only [List.mem_cons, List.mem_nil_iff, or_false] at hy
      rcases hy with rfl | rfl
      · exact Mk.int _
      · exact Mk.int _)
  refine ⟨(by show 1 ≤ sizeLine; decide), fun t35 h35 => ?_⟩
  have s35 := same_new h35 (.tup [.ref t34])
  have m35 : Mk K _ 130 2 (.ref t35) := Mk.new (xs := [.ref t34]) h35 (by show 1 ≤ 130; decide) (fun y hy => by
      simp only [List.mem_cons, List.mem_nil_iff, or_false] at hy
      obtain rfl := hy
      exact (Mk.more (Nat.le_refl _) (by decide) m34))
  refine ⟨(by show 2 ≤ sizeLine; decide), fun t36 h36 => ?_⟩
  have s36 := same_new h36 (.tup [.int 0, .int 1])
  have m36 : Mk K _ 130 1 (.ref t36) := Mk.new (xs := [.int 0, .int 1]) h36 (by show 2 ≤ 130; decide) (fun y hy => by
      simp only [List.mem_cons, List.mem_nil_iff, or_false] at hy
      rcases hy with rfl | rfl
      · exact Mk.int _
      · exact Mk.int _)
  refine ⟨(by show 3 ≤ sizeLine; decide), fun t37 h37 => ?_⟩
  have s37 := same_new h37 (.tup [.int 2, .ref t35, .ref t36])
  have m37 : Mk K _ 130 3 (.ref t37) := Mk.new (xs := [.int 2, .ref t35, .ref t36]) h37 (by show 3 ≤ 130; decide) (fun y hy => by
      simp only [List.mem_cons, List.mem_nil_iff, or_false] at hy
      rcases hy with rfl | rfl | rfl
      · exact Mk.int _
      · exact (Mk.more (Nat.le_refl _) (by decide) (Mk.same s36 m35))
      · exact (Mk.more (Nat.le_refl _) (by decide) m36))
  refine ⟨(by show 1 ≤ sizeLine; decide), fun t38 h38 => ?_⟩
  have s38 := same_new h38 (.lst [.ref t37])
  have g3 : ∀ y ∈ ([.ref t37] : List V), Mk K _ 130 4 y := fun y hy => by
    simp only [List.mem_cons, List.mem_nil_iff, or_false] at hy
    obtain rfl := hy
    exact (Mk.more (Nat.le_refl _) (by decide) (Mk.same s38 m37))
  have n3 := newAt h38 (.lst [.ref t37])
  have w3 := ((((s34.trans s35).trans s36).trans s37).trans s38)
  refine ⟨p2, t38, X2, _, rfl, rfl, w3 _ _ a2, n3, Nat.le_trans (show _ + 1 ≤ 1000 by omega) (by decide), fun p3 hp3 => ?_⟩
  have v3 := same_new hp3 (.lst (X2 ++ [.ref t37]))
  have u3 := (u2.trans w3).trans v3
  have q3 : ∃ X : List V, X.length ≤ 21 ∧ _ = some (HO.lst X) ∧ ∀ y ∈ X, Mk K _ 130 4 y := ⟨_, by rw [List.length_append]; show _ + 1 ≤ _; omega, newAt hp3 (.lst (X2 ++ [.ref t37])), fun y hy => (List.mem_append.mp hy).elim (fun z => Mk.same (w3.trans v3) (b2 y z)) (fun z => Mk.same v3 (g3 y z))⟩
  obtain ⟨X3, c3, a3, b3⟩ := q3
  refine ⟨_, rfl, ?_⟩
  refine ⟨(by show 2 ≤ sizeLine; decide), fun t39 h39 => ?_⟩
  have s39 := same_new h39 (.tup [.int 0, .bl true])
  have m39 : Mk K _ 130 1 (.ref t39) := Mk.new (xs := [.int 0, .bl true]) h39 (by show 2 ≤ 130; decide) (fun y hy => by
      simp only [List.mem_cons, List.mem_nil_iff, or_false] at hy
      rcases hy with rfl | rfl
      · exact Mk.int _
      · exact Mk.bl _)
  refine ⟨(by show 1 ≤ sizeLine; decide), fun t40 h40 => ?_⟩
  have s40 := same_new h40 (.tup [.ref t39])
  have m40 : Mk K _ 130 2 (.ref t40) := Mk.new (xs := [.ref t39]) h40 (by show 1 ≤ 130; decide) (fun y hy => by
      simp only [List.mem_cons, List.mem_nil_iff, or_false] at hy
      obtain rfl := hy
      exact (Mk.more (Nat.le_refl _) (by decide) m39))
  refine ⟨(by show 2 ≤ sizeLine; decide), fun t41 h41 => ?_⟩
  have s41 := same_new h41 (.tup [.int 0, .int 1])
  have m41 : Mk K _ 130 1 (.ref t41) := Mk.new (xs := [.int 0, .int 1]) h41 (by show 2 ≤ 130; decide) (fun y hy => by
      simp only [List.mem_cons, List.mem_nil_iff, or_false] at hy
      rcases hy with rfl | rfl
      · exact Mk.int _
      · exact Mk.int _)
  refine ⟨(by show 3 ≤ sizeLine; decide), fun t42 h42 => ?_⟩
  have s42 := same_new h42 (.tup [.int 2, .ref t40, .ref t41])
  have m42 : Mk K _ 130 3 (.ref t42) := Mk.new (xs := [.int 2, .ref t40, .ref t41]) h42 (by show 3 ≤ 130; decide) (fun y hy => by
      simp only [List.mem_cons, List.mem_nil_iff, or_false] at hy
      rcases hy with rfl | rfl | rfl
      · exact Mk.int _
      · exact (Mk.more (Nat.le_refl _) (by decide) (Mk.same s41 m40))
      · exact (Mk.more (Nat.le_refl _) (by decide) m41))
  refine ⟨(by show 2 ≤ sizeLine; decide), fun t43 h43 => ?_⟩
  have s43 := same_new h43 (.lst [.int 0, .int 1])
  have m43 : Mk K _ 130 0 (.ref t43) := Mk.lstN h43 [.int 0, .int 1]
  refine ⟨(by show 1 ≤ sizeLine; decide), fun t44 h44 => ?_⟩
  have s44 := same_new h44 (.tup [.ref t43])
  have m44 : Mk K _ 130 1 (.ref t44) := Mk.new (xs := [.ref t43]) h44 (by show 1 ≤ 130; decide) (fun y hy => by
      simp only [List.mem_cons, List.mem_nil_iff, or_false] at hy
      obtain rfl := hy
      exact (Mk.more (Nat.le_refl _) (by decide) m43))
  refine ⟨(by show 2 ≤ sizeLine; decide), fun t45 h45 => ?_⟩
  have s45 := same_new h45 (.tup [.int 0, .int 1])
  have m45 : Mk K _ 130 1 (.ref t45) := Mk.new (xs := [.int 0, .int 1]) h45 (by show 2 ≤ 130; decide) (fun y hy => by
      simp only [List.mem_cons, List.mem_nil_iff, or_false] at hy
      rcases hy with rfl | rfl
      · exact Mk.int _
      · exact Mk.int _)
  refine ⟨(by show 3 ≤ sizeLine; decide), fun t46 h46 => ?_⟩
  have s46 := same_new h46 (.tup [.int 2, .ref t44, .ref t45])
  have m46 : Mk K _ 130 2 (.ref t46) := Mk.new (xs := [.int 2, .ref t44, .ref t45]) h46 (by show 3 ≤ 130; decide) (fun y hy => by
      simp only [List.mem_cons, List.mem_nil_iff, or_false] at hy
      rcases hy with rfl | rfl | rfl
      · exact Mk.int _
      · exact (Mk.more (Nat.le_refl _) (by decide) (Mk.same s45 m44))
      · exact (Mk.more (Nat.le_refl _) (by decide) m45))
  refine ⟨(by show 3 ≤ sizeLine; decide), fun t47 h47 => ?_⟩
  have s47 := same_new h47 (.tup [.int 0, .int 1, .int 1])
  have m47 : Mk K _ 130 1 (.ref t47) := Mk.new (xs := [.int 0, .int 1, .int 1]) h47 (by show 3 ≤ 130; decide) (fun y hy => by
      simp only [List.mem_cons, List.mem_nil_iff, or_false] at hy
      rcases hy with rfl | rfl | rfl
      · exact Mk.int _
      · exact Mk.int _
      · exact Mk.int _)
  refine ⟨(by show 1 ≤ sizeLine; decide), fun t48 h48 => ?_⟩
  have s48 := same_new h48 (.tup [.ref t47])
  have m48 : Mk K _ 130 2 (.ref t48) := Mk.new (xs := [.ref t47]) h48 (by show 1 ≤ 130; decide) (fun y hy => by
      simp only [List.mem_cons, List.mem_nil_iff, or_false] at hy
      obtain rfl := hy
      exact (Mk.more (Nat.le_refl _) (by decide) m47))
  refine ⟨(by show 2 ≤ sizeLine; decide), fun t49 h49 => ?_⟩
  have s49 := same_new h49 (.tup [.int 0, .int 1])
  have m49 : Mk K _ 130 1 (.ref t49) := Mk.new (xs := [.int 0, .int 1]) h49 (by show 2 ≤ 130; decide) (fun y hy => by
      simp only [List.mem_cons, List.mem_nil_iff, or_false] at hy
      rcases hy with rfl | rfl
      · exact Mk.int _
      · exact Mk.int _)
  refine ⟨(by show 3 ≤ sizeLine; decide), fun t50 h50 => ?_⟩
  have s50 := same_new h50 (.tup [.int 2, .ref t48, .ref t49])
  have m50 : Mk K _ 130 3 (.ref t50) := Mk.new (xs := [.int 2, .ref t48, .ref t49]) h50 (by show 3 ≤ 130; decide) (fun y hy => by
      simp only [List.mem_cons, List.mem_nil_iff, or_false] at hy
      rcases hy with rfl | rfl | rfl
      · exact Mk.int _
      · exact (Mk.more (Nat.le_refl _) (by decide) (Mk.same s49 m48))
      · exact (Mk.more (Nat.le_refl _) (by decide) m49))
  refine ⟨(by show 2 ≤ sizeLine; decide), fun t51 h51 => ?_⟩
  have s51 := same_new h51 (.tup [.int 0, .int 1])
  have m51 : Mk K _ 130 1 (.ref t51) := Mk.new (xs := [.int 0, .int 1]) h51 (by show 2 ≤ 130; decide) (fun y hy => by
      simp only [List.mem_cons, List.mem_nil_iff, or_false] at hy
      rcases hy with rfl | rfl
      · exact Mk.int _
      · exact Mk.int _)
  refine ⟨(by show 2 ≤ sizeLine; decide), fun t52 h52 => ?_⟩
  have s52 := same_new h52 (.tup [.int 0, .int 1])
  have m52 : Mk K _ 130 1 (.ref t52) := Mk.new (xs := [.int 0, .int 1]) h52 (by show 2 ≤ 130; decide) (fun y hy => by
      simp only [List.mem_cons, List.mem_nil_iff, or_false] at hy
      rcases hy with rfl | rfl
      · exact Mk.int _
      · exact Mk.int _)
  refine ⟨(by show 3 ≤ sizeLine; decide), fun t53 h53 => ?_⟩
  have s53 := same_new h53 (.tup [.int 2, .ref t51, .ref t52])
  have m53 : Mk K _ 130 2 (.ref t53) := Mk.new (xs := [.int 2, .ref t51, .ref t52]) h53 (by show 3 ≤ 130; decide) (fun y hy => by
      simp only [List.mem_cons, List.mem_nil_iff, or_false] at hy
      rcases hy with rfl | rfl | rfl
      · exact Mk.int _
      · exact (Mk.more (Nat.le_refl _) (by decide) (Mk.same s52 m51))
      · exact (Mk.more (Nat.le_refl _) (by decide) m52))
  refine ⟨(by show 4 ≤ sizeLine; decide), fun t54 h54 => ?_⟩
  have s54 := same_new h54 (.lst [.ref t42, .ref t46, .ref t50, .ref t53])
  have g4 : ∀ y ∈ ([.ref t42, .ref t46, .ref t50, .ref t53] : List V), Mk K _ 130 4 y := fun y hy => by
    simp only [List.mem_cons, List.mem_nil_iff, or_false] at hy
    rcases hy with rfl | rfl | rfl | rfl
    · exact (Mk.more (Nat.le_refl _) (by decide) (Mk.same (((((((((((s43.trans s44).trans s45).trans s46).trans s47).trans s48).trans s49).trans s50).trans s51).trans s52).trans s53).trans s54) m42))
    · exact (Mk.more (Nat.le_refl _) (by decide) (Mk.same (((((((s47.trans s48).trans s49).trans s50).trans s51).trans s52).trans s53).trans s54) m46))
    · exact (Mk.more (Nat.le_refl _) (by decide) (Mk.same (((s51.trans s52).trans s53).trans s54) m50))
    · exact (Mk.more (Nat.le_refl _) (by decide) (Mk.same s54 m53))
  have n4 := newAt h54 (.lst [.ref t42, .ref t46, .ref t50, .ref t53])
  have w4 := (((((((((((((((s39.trans s40).trans s41).trans s42).trans s43).trans s44).trans s45).trans s46).trans s47).trans s48).trans s49).trans s50).trans s51).trans s52).trans s53).trans s54)
  refine ⟨p3, t54, X3, _, rfl, rfl, w4 _ _ a3, n4, Nat.le_trans (show _ + 4 ≤ 1000 by omega) (by decide), fun p4 hp4 => ?_⟩
  have v4 := same_new hp4 (.lst (X3 ++ [.ref t42, .ref t46, .ref t50, .ref t53]))
  have u4 := (u3.trans w4).trans v4
  have q4 : ∃ X : List V, X.length ≤ 25 ∧ _ = some (HO.lst X) ∧ ∀ y ∈ X, Mk K _ 130 4 y := ⟨_, by rw [List.length_append]; show _ + 4 ≤ _; omega, newAt hp4 (.lst (X3 ++ [.ref t42, .ref t46, .ref t50, .ref t53])), fun y hy => (List.mem_append.mp hy).elim (fun z => Mk.same (w4.trans v4) (b3 y z)) (fun z => Mk.same v4 (g4 y z))⟩
  obtain ⟨X4, c4, a4, b4⟩ := q4
  refine ⟨_, rfl, ?_⟩
  refine ⟨(by show 2 ≤ sizeLine; decide), fun t55 h55 => ?_⟩
  have s55 := same_new h55 (.tup [.int 0, .int 1])
  have m55 : Mk K _ 130 1 (.ref t55) := Mk.new (xs := [.int 0, .int 1]) h55 (by show 2 ≤ 130; decide) (fun y hy => by
      simp only [List.mem_cons, List.mem_nil_iff, or_false] at hy
      rcases hy with rfl | rfl
      · exact Mk.int _
      · exact Mk.int _)
  refine ⟨(by show 3 ≤ sizeLine; decide), fun t56 h56 => ?_⟩
  have s56 := same_new h56 (.tup [.int 2, .non, .ref t55])
  have m56 : Mk K _ 130 2 (.ref t56) := Mk.new (xs := [.int 2, .non, .ref t55]) h56 (by show 3 ≤ 130; decide) (fun y hy => by
      simp only [List.mem_cons, List.mem_nil_iff, or_false] at hy
      rcases hy with rfl | rfl | rfl
      · exact Mk.int _
      · exact Mk.non
      · exact (Mk.more (Nat.le_refl _) (by decide) m55))
  refine ⟨(by show 0 ≤ sizeLine; decide), fun t57 h57 => ?_⟩
  have s57 := same_new h57 (.tup [])
  have m57 : Mk K _ 130 1 (.ref t57) := Mk.new (xs := []) h57 (by show 0 ≤ 130; decide) (fun y hy => by simp at hy)
  refine ⟨17, rfl, by decide, fun t58 h58 => ?_⟩
  have s58 := same_new h58 (if false = true then HO.lst (upTo 17) else .tup (upTo 17))
  have m58 : Mk K _ 130 1 (.ref t58) := Mk.rngN h58 17 (by decide)
  refine ⟨(by show 3 ≤ sizeLine; decide), fun t59 h59 => ?_⟩
  have s59 := same_new h59 (.tup [.int 17, .ref t57, .ref t58])
  have m59 : Mk K _ 130 2 (.ref t59) := Mk.new (xs := [.int 17, .ref t57, .ref t58]) h59 (by show 3 ≤ 130; decide) (fun y hy => by
      simp only [List.mem_cons, List.mem_nil_iff, or_false] at hy
      rcases hy with rfl | rfl | rfl
      · exact Mk.int _
      · exact (Mk.more (Nat.le_refl _) (by decide) (Mk.same s58 m57))
      · exact (Mk.more (Nat.le_refl _) (by decide) m58))
  refine ⟨(by show 0 ≤ sizeLine; decide), fun t60 h60 => ?_⟩
  have s60 := same_new h60 (.tup [])
  have m60 : Mk K _ 130 1 (.ref t60) := Mk.new (xs := []) h60 (by show 0 ≤ 130; decide) (fun y hy => by simp at hy)
  refine ⟨(by show 2 ≤ sizeLine; decide), fun t61 h61 => ?_⟩
  have s61 := same_new h61 (.tup [.int 1, .int 0])
  have m61 : Mk K _ 130 1 (.ref t61) := Mk.new (xs := [.int 1, .int 0]) h61 (by show 2 ≤ 130; decide) (fun y hy => by
      simp only [List.mem_cons, List.mem_nil_iff, or_false] at hy
      rcases hy with rfl | rfl
      · exact Mk.int _
      · exact Mk.int _)
  refine ⟨(by show 0 ≤ sizeLine; decide), fun t62 h62 => ?_⟩
  have s62 := same_new h62 (.tup [])
  have m62 : Mk K _ 130 1 (.ref t62) := Mk.new (xs := []) h62 (by show 0 ≤ 130; decide) (fun y hy => by simp at hy)
  refine ⟨(by show 4 ≤ sizeLine; decide), fun t63 h63 => ?_⟩
  have s63 := same_new h63 (.tup [.int 2, .ref t60, .ref t61, .ref t62])
  have m63 : Mk K _ 130 2 (.ref t63) := Mk.new (xs := [.int 2, .ref t60, .ref t61, .ref t62]) h63 (by show 4 ≤ 130; decide) (fun y hy => by
      simp only [List.mem_cons, List.mem_nil_iff, or_false] at hy
      rcases hy with rfl | rfl | rfl | rfl
      · exact Mk.int _
      · exact (Mk.more (Nat.le_refl _) (by decide) (Mk.same (s61.trans s62) m60))
      · exact (Mk.more (Nat.le_refl _) (by decide) (Mk.same s62 m61))
      · exact (Mk.more (Nat.le_refl _) (by decide) m62))
  refine ⟨(by show 0 ≤ sizeLine; decide), fun t64 h64 => ?_⟩
  have s64 := same_new h64 (.tup [])
  have m64 : Mk K _ 130 1 (.ref t64) := Mk.new (xs := []) h64 (by show 0 ≤ 130; decide) (fun y hy => by simp at hy)
  refine ⟨(by show 2 ≤ sizeLine; decide), fun t65 h65 => ?_⟩
  have s65 := same_new h65 (.tup [.int 2, .ref t64])
  have m65 : Mk K _ 130 2 (.ref t65) := Mk.new (xs := [.int 2, .ref t64]) h65 (by show 2 ≤ 130; decide) (fun y hy => by
      simp only [List.mem_cons, List.mem_nil_iff, or_false] at hy
      rcases hy with rfl | rfl
      · exact Mk.int _
      · exact (Mk.more (Nat.le_refl _) (by decide) m64))
  refine ⟨(by show 0 ≤ sizeLine; decide), fun t66 h66 => ?_⟩
  have s66 := same_new h66 (.tup [])
  have m66 : Mk K _ 130 1 (.ref t66) := Mk.new (xs := []) h66 (by show 0 ≤ 130; decide) (fun y hy => by simp at hy)
  refine ⟨(by show 1 ≤ sizeLine; decide), fun t67 h67 => ?_⟩
  have s67 := same_new h67 (.tup [.int 0])
  have m67 : Mk K _ 130 1 (.ref t67) := Mk.new (xs := [.int 0]) h67 (by show 1 ≤ 130; decide) (fun y hy => by
      simp only [List.mem_cons, List.mem_nil_iff, or_false] at hy
      obtain rfl := hy
      exact Mk.int _)
  refine ⟨(by show 3 ≤ sizeLine; decide), fun t68 h68 => ?_⟩
  have s68 := same_new h68 (.tup [.int 1, .ref t66, .ref t67])
  have m68 : Mk K _ 130 2 (.ref t68) := Mk.new (xs := [.int 1, .ref t66, .ref t67]) h68 (by show 3 ≤ 130; decide) (fun y hy => by
      simp only [List.mem_cons, List.mem_nil_iff, or_false] at hy
      rcases hy with rfl | rfl | rfl
      · exact Mk.int _
      · exact (Mk.more (Nat.le_refl _) (by decide) (Mk.same s67 m66))
      · exact (Mk.more (Nat.le_refl _) (by decide) m67))
  refine ⟨(by show 1 ≤ sizeLine; decide), fun t69 h69 => ?_⟩
  have s69 := same_new h69 (.tup [.ref t68])
  have m69 : Mk K _ 130 3 (.ref t69) := Mk.new (xs := [.ref t68]) h69 (by show 1 ≤ 130; decide) (fun y hy => by
      simp only [List.mem_cons, List.mem_nil_iff, or_false] at hy
      obtain rfl := hy
      exact (Mk.more (Nat.le_refl _) (by decide) m68))
  refine ⟨(by show 5 ≤ sizeLine; decide), fun t70 h70 => ?_⟩
  have s70 := same_new h70 (.lst [.ref t56, .ref t59, .ref t63, .ref t65, .ref t69])
  have g5 : ∀ y ∈ ([.ref t56, .ref t59, .ref t63, .ref t65, .ref t69] : List V), Mk K _ 130 4 y := fun y hy => by
    simp only [List.mem_cons, List.mem_nil_iff, or_false] at hy
    rcases hy with rfl | rfl | rfl | rfl | rfl
    · exact (Mk.more (Nat.le_refl _) (by decide) (Mk.same (((((((((((((s57.trans s58).trans s59).trans s60).trans s61).trans s62).trans s63).trans s64).trans s65).trans s66).trans s67).trans s68).trans s69).trans s70) m56))
    · exact (Mk.more (Nat.le_refl _) (by decide) (Mk.same ((((((((((s60.trans s61).trans s62).trans s63).trans s64).trans s65).trans s66).trans s67).trans s68).trans s69).trans s70) m59))
    · exact (Mk.more (Nat.le_refl _) (by decide) (Mk.same ((((((s64.trans s65).trans s66).trans s67).trans s68).trans s69).trans s70) m63))
    · exact (Mk.more (Nat.le_refl _) (by decide) (Mk.same ((((s66.trans s67).trans s68).trans s69).trans s70) m65))
    · exact (Mk.more (Nat.le_refl _) (by decide) (Mk.same s70 m69))
  have n5 := newAt h70 (.lst [.ref t56, .ref t59, .ref t63, .ref t65, .ref t69])
  have w5 := (((((((((((((((s55.trans s56).trans s57).trans s58).trans s59).trans s60).trans s61).trans s62).trans s63).trans s64).trans s65).trans s66).trans s67).trans s68).trans s69).trans s70)
  refine ⟨p4, t70, X4, _, rfl, rfl, w5 _ _ a4, n5, Nat.le_trans (show _ + 5 ≤ 1000 by omega) (by decide), fun p5 hp5 => ?_⟩
  have v5 := same_new hp5 (.lst (X4 ++ [.ref t56, .ref t59, .ref t63, .ref t65, .ref t69]))
  have u5 := (u4.trans w5).trans v5
  have q5 : ∃ X : List V, X.length ≤ 30 ∧ _ = some (HO.lst X) ∧ ∀ y ∈ X, Mk K _ 130 4 y := ⟨_, by rw [List.length_append]; show _ + 5 ≤ _; omega, newAt hp5 (.lst (X4 ++ [.ref t56, .ref t59, .ref t63, .ref t65, .ref t69])), fun y hy => (List.mem_append.mp hy).elim (fun z => Mk.same (w5.trans v5) (b4 y z)) (fun z => Mk.same v5 (g5 y z))⟩
  obtain ⟨X5, c5, a5, b5⟩ := q5
  refine ⟨_, rfl, ?_⟩
  refine ⟨(by show 1 ≤ sizeLine; decide), fun t71 h71 => ?_⟩
  have s71 := same_new h71 (.lst [.str "lanes 1"])
  have g6 : ∀ y ∈ ([.str "lanes 1"] : List V), Mk K _ 130 4 y := fun y hy => by
    simp only [List.mem_cons, List.mem_nil_iff, or_false] at hy
    obtain rfl := hy
    exact (Mk.same s71 (Mk.str _))
  have n6 := newAt h71 (.lst [.str "lanes 1"])
  have w6 := s71
  refine ⟨p5, t71, X5, _, rfl, rfl, w6 _ _ a5, n6, Nat.le_trans (show _ + 1 ≤ 1000 by omega) (by decide), fun p6 hp6 => ?_⟩
  have v6 := same_new hp6 (.lst (X5 ++ [.str "lanes 1"]))
  have u6 := (u5.trans w6).trans v6
  have q6 : ∃ X : List V, X.length ≤ 31 ∧ _ = some (HO.lst X) ∧ ∀ y ∈ X, Mk K _ 130 4 y := ⟨_, by rw [List.length_append]; show _ + 1 ≤ _; omega, newAt hp6 (.lst (X5 ++ [.str "lanes 1"])), fun y hy => (List.mem_append.mp hy).elim (fun z => Mk.same (w6.trans v6) (b5 y z)) (fun z => Mk.same v6 (g6 y z))⟩
  obtain ⟨X6, c6, a6, b6⟩ := q6
  exact k p6 X6 _ u6 a6 (by omega) b6
end
end K01
end
section
set_option maxHeartbeats 4000001
namespace K01
open PySem L2 Own Bn
abbrev sBent : Stmt := top 20
theorem any_but {K : PySem.W.Frag} {H H' : Hp} {l : Addr} {n m : Nat} {x : V} (B : But l H H') (S : StAt H l n) (S' : StAt H' l m) (h : AnyT K H x) : AnyT K H' x := by
  obtain ⟨_, _, _, e0, _⟩ := S.ex
  obtain ⟨_, _, _, e1, _⟩ := S'.ex
  obtain ⟨T, h, t, et⟩ := h
  cases h with
  | non => exact ⟨_, .non, _, rfl⟩
  | bl b => exact ⟨_, .bl b, _, rfl⟩
  | int i => exact ⟨_, .int i, _, rfl⟩
  | str x => exact ⟨_, .str x, _, rfl⟩
  | flt x => exact ⟨_, .flt x, _, rfl⟩
  | @lst a xs e =>
    by_cases z : a = l
    · subst z; exact ⟨_, .lst e1, _, rfl⟩
    · exact ⟨_, .lst (B _ _ e z), _, rfl⟩
  | frz e => exact ⟨_, .frz (B _ _ e (by rintro rfl; rw [e0] at e; cases e)), _, rfl⟩
  | tup e => exact ⟨_, .tup (B _ _ e (by rintro rfl; rw [e0] at e; cases e)), _, rfl⟩
  | dK e => exact ⟨_, .dK (B _ _ e (by rintro rfl; rw [e0] at e; cases e)), _, rfl⟩
  | dT e => exact ⟨_, .dT (B _ _ e (by rintro rfl; rw [e0] at e; cases e)), _, rfl⟩
  | ins e _ _ _ _ _ => cases et
theorem row_but {K : PySem.W.Frag} {H H' : Hp} {l : Addr} {n m : Nat} {x : V} (B : But l H H') (S : StAt H l n) (S' : StAt H' l m) (h : AnyT K H x) : rowOf H' x = rowOf H x := by
  obtain ⟨_, _, _, e0, _⟩ := S.ex
  obtain ⟨_, _, _, e1, _⟩ := S'.ex
  cases z : rowOf H x with
  | some xs =>
    obtain ⟨b, rfl, hb⟩ := rowOf_some z
    exact rowOf_tup (B _ _ hb (by rintro rfl; rw [e0] at hb; cases hb))
  | none =>
    cases y : rowOf H' x with
    | none => rfl
    | some ys =>
      obtain ⟨b, rfl, hb⟩ := rowOf_some y
      have nb : b ≠ l := by rintro rfl; rw [e1] at hb; cases hb
      obtain ⟨T, ty, _⟩ := h
      cases ty with
      | tup h => rw [rowOf_tup h] at z; cases z
      | lst h => rw [B _ _ h nb] at hb; cases hb
      | frz h => rw [B _ _ h nb] at hb; cases hb
      | dK h => rw [B _ _ h nb] at hb; cases hb
      | dT h => rw [B _ _ h nb] at hb; cases hb
      | ins h => rw [B _ _ h nb] at hb; cases hb
theorem mk_but {K : PySem.W.Frag} {H H' : Hp} {l : Addr} {n m b : Nat} (B : But l H H') (S : StAt H l n) (S' : StAt H' l m) : ∀ {h : Nat} {x : V}, Mk K H b h x → Mk K H' b h x
  | 0, _, z => ⟨any_but B S S' z.1, (row_but B S S' z.1).trans z.2⟩
  | _ + 1, _, z => ⟨any_but B S S' z.1, fun xs e => by
    rw [row_but B S S' z.1] at e
    exact ⟨(z.2 xs e).1, fun y hy => mk_but B S S' ((z.2 xs e).2 y hy)⟩⟩
theorem Mk.kids {K : PySem.W.Frag} {H : Hp} {b h : Nat} {x : V} {xs : List V} (m : Mk K H b h x) (e : rowOf H x = some xs) : xs.length ≤ b ∧ ∃ h', h = h' + 1 ∧ ∀ y ∈ xs, Mk K H b h' y := by
  cases h with
  | zero => rw [m.2] at e; cases e
  | succ h' => exact ⟨(m.2 xs e).1, h', rfl, (m.2 xs e).2⟩
theorem cut_mem {xs : List V} {lo hi : Option Int} {y : V} (h : y ∈ cutV xs lo hi) : y ∈ xs := List.mem_of_mem_drop (List.mem_of_mem_take h)
theorem cut_len (xs : List V) (lo hi : Option Int) : (cutV xs lo hi).length ≤ xs.length := by
  unfold cutV
  rw [List.length_take, List.length_drop]; omega
def spBent (K : PySem.W.Frag) (h : Nat) : Sp := fun vs H Q _ => ∃ (l : Addr) (n : Nat) (x : V) (r : Addr) (b : Nat) (lanes : Int) (v1 v2 : V), vs = [.ref l, x, .ref r] ∧ StAt H l n ∧ n + 3 * (h + 1) < 2 ^ 58 ∧ b ≤ 300 ∧ Mk K H b h x ∧ H r = some (.tup [.int lanes, v1, v2]) ∧
  ∀ y H', Mk K H' (2 * b + 2) (h + 1) y → StAt H' l (n + 3 * (h + 1)) → But l H H' → Q y H'
section
variable {P : Program} {w : World} {K : PySem.W.Frag} {mg : Str → Option Value} {base : Heap}
theorem scBe : FnScope ["_law_state", "_law_thing", "_law_net_here", "_law_at", "_law_some"] ["_law_state", "_law_thing", "_law_net_here"] (defScope sBent) := ⟨rfl, rfl, rfl, by decide +kernel, rfl, by decide +kernel, by decide +kernel⟩
theorem ok_bent1 {f fK : Addr} {fd dK : FuncData} (F : Fun K "_law_bent" "_law_bent" sBent f fd) (G : Mgs mg) (UK : Use P w K mg base "_law_take" ["_law_state", "_law_many"] 1 (spTake K) fK dK) (h : Nat)
    (UB : Use P w K mg base "_law_bent" ["_law_state", "_law_thing", "_law_net_here"] (h + 1) (fun vs H Q E => ∃ m, h = m + 1 ∧ spBent K m vs H Q E) f fd) : FnOk P w K mg base CX0 (h + 2) f fd ["_law_state", "_law_thing", "_law_net_here"] (spBent K h) := by
  refine F.ok scBe (fun vs H Q E h => ?_) (fun cdv A outer s H vs Q E hr hh => ?_)
  · obtain ⟨l, n, x, r, b, lanes, v1, v2, rfl, _⟩ := h
    rfl
  obtain ⟨l, n, x, r, b, lanes, v1', v2', rfl, S, hn, hb, mx, hr0, k⟩ := hh
  have hr1 : Room 1 _ := hr.mono (by omega)
  obtain ⟨tF, hF, hqF⟩ : ∃ t', PSs (cxOf CX0 P w K mg base ["_law_state", "_law_thing", "_law_net_here", "_law_at", "_law_some"] "_law_bent" (defScope sBent) f cdv A outer s H E).nox ((defBody sBent).drop 4) t' ∧
      ∀ (H9 : Hp) (n1 : Nat) (p : Addr) (X : List V), n1 ≤ n + 1 → But l H H9 → StAt H9 l n1 → X.length ≤ 100 → 0 < X.length → H9 p = some (.lst X) → p ≠ l → (∀ y ∈ X, Mk K H9 (2 * b + 2) (h + 1) y) → t' { nx := fun _ H' => Q .non H', rt := Q } [some (.ref l), some x, some (.ref r), none, some (.ref p)] H9 := by
    refine ⟨_, (@pss_one _ _ _ (@ps_ret _ _ _ _ (@pe_ix _ _ _ _ _ _ _ ix_list (@pv _ 4 _ _ (by rfl) (by first | exact Or.inl rfl | exact Or.inr (Or.inl rfl) | exact Or.inr (Or.inr rfl)) (by decide) (by decide)) (@pe_call _ _ _ _ _ _ _ _ _ _ _ _ _ _ _ _ UK.ok hr1 (by rfl) UK.m UK.kp UK.b .nil pass0 (@pa_cons _ _ _ _ _ (@pv _ 0 _ _ (by rfl) (by first | exact Or.inl rfl | exact Or.inr (Or.inl rfl) | exact Or.inr (Or.inr rfl)) (by decide) (by decide)) (@pa_cons _ _ _ _ _ (@pe_callB _ _ _ _ _ _ _ _ _ call_len_seq (by rfl) G.len PySem.boot_len (@pa_cons _ _ _ _ _ (@pv _ 4 _ _ (by rfl) (by first | exact Or.inl rfl | exact Or.inr (Or.inl rfl) | exact Or.inr (Or.inr rfl)) (by decide) (by decide)) pa_nil (by rfl)) (by decide) (by decide) (by rfl) (by rfl)) pa_nil (by rfl)) (by rfl)) (by decide) (by rfl) (by rfl)) (fun _ _ => rfl)))), ?_⟩
    intro H9 n1 p X n1h B9 S9 lX pX hp np mX
    refine ⟨_, rfl, _, rfl, _, rfl, p, X, rfl, .inl (SqL.of hp), l, _, n1, rfl, by omega, by omega, S9, by omega, fun v H2 v0 v1 S2 B2 => ?_⟩
    obtain ⟨v, rfl⟩ := Int.eq_ofNat_of_zero_le v0
    have vl : v < X.length := by omega
    refine ⟨p, _, _, _, rfl, rfl, SqL.of (B2 _ _ hp np), atI_nat (List.getElem?_eq_getElem vl), ?_⟩
    exact k _ _ (mk_but B2 S9 S2 (mX _ (List.getElem_mem vl))) (S2.mono (by omega)) (B9.trans B2)
  obtain ⟨tE, hE, hqE⟩ : ∃ t', PSs (cxOf CX0 P w K mg base ["_law_state", "_law_thing", "_law_net_here", "_law_at", "_law_some"] "_law_bent" (defScope sBent) f cdv A outer s H E).nox ((defBody sBent).drop 1) t' ∧
      ∀ (H1 : Hp) (n1 : Nat), n1 ≤ n + 1 → But l H H1 → StAt H1 l n1 → t' { nx := fun _ H' => Q .non H', rt := Q } [some (.ref l), some x, some (.ref r), none, none] H1 := by
    refine ⟨_, (@pss_cons _ _ _ _ _ (@ps_set _ _ 4 _ _ _ _ scBe.nd rfl (Or.inl rfl) (@pe_lst _ _ _ _ (@pa_cons _ _ _ _ _ pe_non (@pa_cons _ _ _ _ _ pe_bl (@pa_cons _ _ _ _ _ pe_bl (@pa_cons _ _ _ _ _ pe_str (@pa_cons _ _ _ _ _ (@pe_tup _ _ _ _ _ pa_nil) (@pa_cons _ _ _ _ _ pe_int (@pa_cons _ _ _ _ _ pe_int (@pa_cons _ _ _ _ _ (@pe_ix _ _ _ _ _ _ _ ix_tup (@pv _ 2 _ _ (by rfl) (by first | exact Or.inl rfl | exact Or.inr (Or.inl rfl) | exact Or.inr (Or.inr rfl)) (by decide) (by decide)) pe_int (fun _ _ => rfl)) (@pa_cons _ _ _ _ _ (@pe_op _ _ _ _ _ _ _ _ op_sub (@pe_ix _ _ _ _ _ _ _ ix_tup (@pv _ 2 _ _ (by rfl) (by first | exact Or.inl rfl | exact Or.inr (Or.inl rfl) | exact Or.inr (Or.inr rfl)) (by decide) (by decide)) pe_int (fun _ _ => rfl)) pe_int) (@pa_cons _ _ _ _ _ (@pe_un _ _ _ _ _ _ un_neg pe_int) (@pa_cons _ _ _ _ _ pe_int (@pa_cons _ _ _ _ _ (@pe_tup _ _ _ _ _ (@pa_cons _ _ _ _ _ pe_int pa_nil (by rfl))) (@pa_cons _ _ _ _ _ (@pe_tup _ _ _ _ _ (@pa_cons _ _ _ _ _ pe_int (@pa_cons _ _ _ _ _ pe_int pa_nil (by rfl)) (by rfl))) (@pa_cons _ _ _ _ _ (@pe_tup _ _ _ _ _ (@pa_cons _ _ _ _ _ pe_int (@pa_cons _ _ _ _ _ pe_int pa_nil (by rfl)) (by rfl))) (@pa_cons _ _ _ _ _ (@pe_lst _ _ _ _ (@pa_cons _ _ _ _ _ (@pv _ 1 _ _ (by rfl) (by first | exact Or.inl rfl | exact Or.inr (Or.inl rfl) | exact Or.inr (Or.inr rfl)) (by decide) (by decide)) pa_nil (by rfl))) (@pa_cons _ _ _ _ _ (@pe_tup _ _ _ _ _ (@pa_cons _ _ _ _ _ (@pv _ 1 _ _ (by rfl) (by first | exact Or.inl rfl | exact Or.inr (Or.inl rfl) | exact Or.inr (Or.inr rfl)) (by decide) (by decide)) pa_nil (by rfl))) pa_nil (by rfl)) (by rfl)) (by rfl)) (by rfl)) (by rfl)) (by rfl)) (by rfl)) (by rfl)) (by rfl)) (by rfl)) (by rfl)) (by rfl)) (by rfl)) (by rfl)) (by rfl)) (by rfl))) (by rfl) (by first | exact .inl rfl | exact .inr rfl | assumption)) (@pss_cons _ _ _ _ _ (@ps_set _ _ 4 _ _ _ _ scBe.nd rfl (Or.inl rfl) (@pe_op _ _ _ _ _ _ _ _ op_cat (@pv _ 4 _ _ (by rfl) (by first | exact Or.inl rfl | exact Or.inr (Or.inl rfl) | exact Or.inr (Or.inr rfl)) (by decide) (by decide)) (@pe_lst _ _ _ _ (@pa_cons _ _ _ _ _ pe_dnewK pa_nil (by rfl)))) (by rfl) (by first | exact .inl rfl | exact .inr rfl | assumption)) (@pss_cons _ _ _ _ _ (@ps_if _ _ _ _ _ _ _ _ (@pt_val _ _ _ (@pe_callB _ _ _ _ _ _ _ _ _ call_isi (by rfl) G.isi (by rfl) (@pa_cons _ _ _ _ _ (@pv _ 1 _ _ (by rfl) (by first | exact Or.inl rfl | exact Or.inr (Or.inl rfl) | exact Or.inr (Or.inr rfl)) (by decide) (by decide)) (@pa_cons _ _ _ _ _ (@pe_bltn _ _ (.ty "tuple") (.type "tuple") _ (by rfl) G.tuple (by rfl) rfl (by decide) (by decide)) pa_nil (by rfl)) (by rfl)) (by decide) (by decide) (by rfl) (by rfl)) (by intro _; rfl)) (@pss_one _ _ _ (@ps_set _ _ 4 _ _ _ _ scBe.nd rfl (Or.inl rfl) (@pe_op _ _ _ _ _ _ _ _ op_cat (@pv _ 4 _ _ (by rfl) (by first | exact Or.inl rfl | exact Or.inr (Or.inl rfl) | exact Or.inr (Or.inr rfl)) (by decide) (by decide)) (@pe_lst _ _ _ _ (@pa_cons _ _ _ _ _ (@pe_callTy _ _ _ _ _ _ _ _ _ call_list_of (by rfl) G.list (by rfl) (@pa_cons _ _ _ _ _ (@pv _ 1 _ _ (by rfl) (by first | exact Or.inl rfl | exact Or.inr (Or.inl rfl) | exact Or.inr (Or.inr rfl)) (by decide) (by decide)) pa_nil (by rfl)) (by decide) (by decide) (by rfl) (by rfl)) (@pa_cons _ _ _ _ _ (@pe_slice _ _ _ _ _ _ _ _ _ _ sl_tupH (@pv _ 1 _ _ (by rfl) (by first | exact Or.inl rfl | exact Or.inr (Or.inl rfl) | exact Or.inr (Or.inr rfl)) (by decide) (by decide)) (@po_some _ _ _ pe_int) po_none) (@pa_cons _ _ _ _ _ (@pe_op _ _ _ _ _ _ _ _ op_catH (@pv _ 1 _ _ (by rfl) (by first | exact Or.inl rfl | exact Or.inr (Or.inl rfl) | exact Or.inr (Or.inr rfl)) (by decide) (by decide)) (@pe_slice _ _ _ _ _ _ _ _ _ _ sl_tupH (@pv _ 1 _ _ (by rfl) (by first | exact Or.inl rfl | exact Or.inr (Or.inl rfl) | exact Or.inr (Or.inr rfl)) (by decide) (by decide)) po_none (@po_some _ _ _ pe_int))) (@pa_cons _ _ _ _ _ (@pe_backA _ _ _ _ _ _ _ (@pv _ 1 _ _ (by rfl) (by first | exact Or.inl rfl | exact Or.inr (Or.inl rfl) | exact Or.inr (Or.inr rfl)) (by decide) (by decide)) (@po_some _ _ _ (@pe_un _ _ _ _ _ _ un_neg pe_int))) (@pa_cons _ _ _ _ _ (@pe_op _ _ _ _ _ _ _ _ op_dbl (@pv _ 1 _ _ (by rfl) (by first | exact Or.inl rfl | exact Or.inr (Or.inl rfl) | exact Or.inr (Or.inr rfl)) (by decide) (by decide)) pe_int) (@pa_cons _ _ _ _ _ (@pe_slice _ _ _ _ _ _ _ _ _ _ sl_tupH (@pv _ 1 _ _ (by rfl) (by first | exact Or.inl rfl | exact Or.inr (Or.inl rfl) | exact Or.inr (Or.inr rfl)) (by decide) (by decide)) po_none (@po_some _ _ _ (@pe_un _ _ _ _ _ _ un_neg pe_int))) pa_nil (by rfl)) (by rfl)) (by rfl)) (by rfl)) (by rfl)) (by rfl)))) (by rfl) (by first | exact .inl rfl | exact .inr rfl | assumption))) pss_nil) @hF))), ?_⟩
    intro H1 n1 n1h B1 S1
    have mx1 := mk_but B1 S S1 mx
    have hr1' : H1 r = some (.tup [.int lanes, v1', v2']) := tups_but B1 S _ _ hr0
    refine ⟨(by show 0 ≤ sizeLine; decide), fun t1 h1 => ?_⟩
    have s1 := same_new h1 (.tup [])
    have m1 : Mk K _ 0 1 (.ref t1) := Mk.new (xs := []) h1 (by show 0 ≤ 0; decide) (fun y hy => by simp at hy)
    refine ⟨_, rfl, r, _, _, _, rfl, rfl, SqT.of (s1 _ _ hr1'), rfl, _, rfl, r, _, _, _, rfl, rfl, SqT.of (s1 _ _ hr1'), rfl, _, _, rfl, rfl, _, rfl, ?_⟩
    refine ⟨(by show 1 ≤ sizeLine; decide), fun t2 h2 => ?_⟩
    have s2 := same_new h2 (.tup [.int 0])
    have m2 : Mk K _ 1 1 (.ref t2) := Mk.new (xs := [.int 0]) h2 (by show 1 ≤ 1; decide) (fun y hy => by rw [List.mem_singleton.mp hy]; exact Mk.int _)
    refine ⟨(by show 2 ≤ sizeLine; decide), fun t3 h3 => ?_⟩
    have s3 := same_new h3 (.tup [.int 0, .int 1])
    have m3 : Mk K _ 2 1 (.ref t3) := Mk.new (xs := [.int 0, .int 1]) h3 (by show 2 ≤ 2; decide) (fun y hy => by
      simp only [List.mem_cons, List.mem_nil_iff, or_false] at hy
      rcases hy with rfl | rfl <;> exact Mk.int _)
    refine ⟨(by show 2 ≤ sizeLine; decide), fun t4 h4 => ?_⟩
    have s4 := same_new h4 (.tup [.int 0, .int 0])
    have m4 : Mk K _ 2 1 (.ref t4) := Mk.new (xs := [.int 0, .int 0]) h4 (by show 2 ≤ 2; decide) (fun y hy => by
      simp only [List.mem_cons, List.mem_nil_iff, or_false] at hy
      rcases hy with rfl | rfl <;> exact Mk.int _)
    refine ⟨_, rfl, (by show 1 ≤ sizeLine; decide), fun t5 h5 => ?_⟩
    have s5 := same_new h5 (.lst [x])
    have m5 : Mk K _ 2 0 (.ref t5) := Mk.lstN h5 [x]
    have u5 := (((s1.trans s2).trans s3).trans s4).trans s5
    refine ⟨_, rfl, (by show 1 ≤ sizeLine; decide), fun t6 h6 => ?_⟩
    have s6 := same_new h6 (.tup [x])
    have m6 : Mk K _ (2 * b + 2) (h + 1) (.ref t6) := Mk.new (xs := [x]) h6 (by show 1 ≤ _; omega) (fun y hy => by rw [List.mem_singleton.mp hy]; exact Mk.more (by omega) (Nat.le_refl _) (Mk.same u5 mx1))
    refine ⟨(by show 16 ≤ sizeLine; decide), fun t7 h7 => ?_⟩
    have s7 := same_new h7 (.lst [.non, .bl true, .bl false, .str "0", .ref t1, .int 0, .int 1, .int lanes, .int (lanes - 1), .int (-1), .int 17, .ref t2, .ref t3, .ref t4, .ref t5, .ref t6])
    have g0 : ∀ y ∈ ([.non, .bl true, .bl false, .str "0", .ref t1, .int 0, .int 1, .int lanes, .int (lanes - 1), .int (-1), .int 17, .ref t2, .ref t3, .ref t4, .ref t5, .ref t6] : List V), Mk K _ (2 * b + 2) (h + 1) y := fun y hy => by
      simp only [List.mem_cons, List.mem_nil_iff, or_false] at hy
      rcases hy with rfl | rfl | rfl | rfl | rfl | rfl | rfl | rfl | rfl | rfl | rfl | rfl | rfl | rfl | rfl | rfl
      · exact Mk.same s7 Mk.non
      · exact Mk.same s7 (Mk.bl _)
      · exact Mk.same s7 (Mk.bl _)
      · exact Mk.same s7 (Mk.str _)
      · exact Mk.more (by omega) (by omega) (Mk.same (((((s2.trans s3).trans s4).trans s5).trans s6).trans s7) m1)
      · exact Mk.same s7 (Mk.int _)
      · exact Mk.same s7 (Mk.int _)
      · exact Mk.same s7 (Mk.int _)
      · exact Mk.same s7 (Mk.int _)
      · exact Mk.same s7 (Mk.int _)
      · exact Mk.same s7 (Mk.int _)
      · exact Mk.more (by omega) (by omega) (Mk.same ((((s3.trans s4).trans s5).trans s6).trans s7) m2)
      · exact Mk.more (by omega) (by omega) (Mk.same (((s4.trans s5).trans s6).trans s7) m3)
      · exact Mk.more (by omega) (by omega) (Mk.same ((s5.trans s6).trans s7) m4)
      · exact Mk.more (by omega) (by omega) (Mk.same (s6.trans s7) m5)
      · exact Mk.same s7 m6
    have n0 := newAt h7 (.lst [.non, .bl true, .bl false, .str "0", .ref t1, .int 0, .int 1, .int lanes, .int (lanes - 1), .int (-1), .int 17, .ref t2, .ref t3, .ref t4, .ref t5, .ref t6])
    have u7 := (u5.trans s6).trans s7
    have q0 : ∃ X : List V, X.length ≤ 16 ∧ 0 < X.length ∧ _ = some (HO.lst X) ∧ ∀ y ∈ X, Mk K _ (2 * b + 2) (h + 1) y := ⟨_, (by show 16 ≤ 16; decide), (by show 0 < 16; decide), n0, g0⟩
    obtain ⟨X0, c0, d0, a0, b0⟩ := q0
    refine ⟨_, rfl, ?_⟩
    refine fun t8 h8 => ?_
    have s8 := same_new h8 (.dK [])
    have m8 : Mk K _ 0 0 (.ref t8) := Mk.dictN h8
    refine ⟨(by show 1 ≤ sizeLine; decide), fun t9 h9 => ?_⟩
    have s9 := same_new h9 (.lst [.ref t8])
    refine ⟨t7, t9, X0, _, rfl, rfl, s9 _ _ (s8 _ _ a0), upd_same, Nat.le_trans (show _ + 1 ≤ 1000 by omega) (by decide), fun p1 hp1 => ?_⟩
    have vv1 := same_new hp1 (.lst (X0 ++ [.ref t8]))
    have w1 := (s8.trans s9).trans vv1
    have q1 : ∃ X : List V, X.length ≤ 17 ∧ 0 < X.length ∧ _ = some (HO.lst X) ∧ ∀ y ∈ X, Mk K _ (2 * b + 2) (h + 1) y := ⟨_, by rw [List.length_append]; show _ + 1 ≤ _; omega, by rw [List.length_append]; omega, newAt hp1 (.lst (X0 ++ [.ref t8])), fun y hy => (List.mem_append.mp hy).elim (fun z => Mk.same w1 (b0 y z)) (fun z => by
      rw [List.mem_singleton.mp z]
      exact Mk.more (by omega) (by omega) (Mk.same (s9.trans vv1) m8))⟩
    obtain ⟨X1, c1, d1, a1, b1⟩ := q1
    have u8 := u7.trans w1
    generalize hG : upd _ p1 _ = HG at u8 a1 b1
    obtain ⟨ty, Iy⟩ := (Mk.any (Mk.same u8 mx1)).isi
    refine ⟨_, rfl, _, "tuple", _, _, rfl, Iy.ty, Iy.tup, _, rfl, ?_⟩
    have BG := B1.trans (But.of u8)
    have SG := S1.keep u8
    have np1 : p1 ≠ l := by
      rintro rfl
      obtain ⟨_, _, _, e, _⟩ := S1.ex
      rw [((u7.trans s8).trans s9) _ _ e] at hp1; cases hp1
    cases z : rowOf HG x with
    | none => exact iteF (hqF _ _ _ _ n1h BG SG (by omega) d1 a1 np1 b1)
    | some xs =>
      obtain ⟨lx, h', rfl, mk⟩ := Mk.kids (Mk.same u8 mx1) z
      obtain ⟨ax, rfl, hx⟩ := rowOf_some z
      refine iteT ⟨_, rfl, _, rfl, ax, xs, rfl, .inr (SqT.of hx), fun t10 h10 => ?_⟩
      have s10 := same_new h10 (.lst xs)
      have m10 : Mk K _ 0 0 (.ref t10) := Mk.lstN h10 xs
      refine ⟨_, rfl, _, rfl, ax, xs, rfl, s10 _ _ hx, fun t11 H11 s11 h11 => ?_⟩
      refine ⟨_, rfl, _, rfl, _, rfl, ax, xs, rfl, s11 _ _ (s10 _ _ hx), fun t12 H12 s12 h12 => ⟨ax, t12, xs, _, rfl, rfl, s12 _ _ (s11 _ _ (s10 _ _ hx)), h12, ?_, fun t13 H13 s13 h13 => ?_⟩⟩
      · have := cut_len xs none (some 1)
        exact Nat.le_trans (show _ ≤ 10000 by omega) (by decide)
      have x13 := s13 _ _ (s12 _ _ (s11 _ _ (s10 _ _ hx)))
      refine ⟨_, rfl, _, rfl, _, rfl, rfl, ax, xs, rfl, SqT.of x13, fun t14 h14 => ?_⟩
      have s14 := same_new h14 (.tup xs.reverse)
      have n14 := newAt h14 (.tup xs.reverse)
      refine ⟨_, rfl, ax, xs, rfl, rfl, s14 _ _ x13, by omega, fun t15 H15 s15 h15 => ?_⟩
      refine ⟨_, rfl, _, rfl, _, rfl, ax, xs, rfl, s15 _ _ (s14 _ _ x13), fun t16 H16 s16 h16 => ?_⟩
      refine ⟨(by show 6 ≤ sizeLine; decide), fun t17 h17 => ?_⟩
      have s17 := same_new h17 (.lst [.ref t10, .ref t11, .ref t13, .ref t14, .ref t15, .ref t16])
      have w17 := ((((((s10.trans s11).trans s12).trans s13).trans s14).trans s15).trans s16).trans s17
      refine ⟨p1, t17, X1, _, rfl, rfl, w17 _ _ a1, upd_same, Nat.le_trans (show _ + 6 ≤ 1000 by omega) (by decide), fun p2 hp2 => ?_⟩
      have s18 := same_new hp2 (.lst (X1 ++ [.ref t10, .ref t11, .ref t13, .ref t14, .ref t15, .ref t16]))
      have w18 := w17.trans s18
      have np2 : p2 ≠ l := by
        rintro rfl
        obtain ⟨_, _, _, e, _⟩ := SG.ex
        rw [w17 _ _ e] at hp2; cases hp2
      have kid : ∀ {H' : Hp}, Same HG H' → ∀ y ∈ xs, Mk K H' (2 * b + 2) h' y := fun s' y hy => Mk.more (by omega) (Nat.le_refl _) (Mk.same s' (mk y hy))
      refine hqF _ _ p2 _ n1h (BG.trans (But.of w18)) (SG.keep w18) ?_ ?_ upd_same np2 (fun y hy => ?_)
      · rw [List.length_append]; show _ + 6 ≤ _; omega
      · rw [List.length_append]; omega
      · rcases List.mem_append.mp hy with z | z
        · exact Mk.same w18 (b1 y z)
        · simp only [List.mem_cons, List.mem_nil_iff, or_false] at z
          rcases z with rfl | rfl | rfl | rfl | rfl | rfl
          · exact Mk.more (by omega) (by omega) (Mk.same (((((((s11.trans s12).trans s13).trans s14).trans s15).trans s16).trans s17).trans s18) m10)
          · have w' := (((((s12.trans s13).trans s14).trans s15).trans s16).trans s17).trans s18
            exact Mk.more (Nat.le_refl _) (by omega) (Mk.tup (h := h') (w' _ _ h11) (by have := cut_len xs (some 1) none; omega) fun y hy => kid w18 y (cut_mem hy))
          · have w' := (((s14.trans s15).trans s16).trans s17).trans s18
            refine Mk.more (Nat.le_refl _) (by omega) (Mk.tup (h := h') (w' _ _ h13) ?_ fun y hy => kid w18 y ?_)
            · have := cut_len xs none (some 1)
              rw [List.length_append]; omega
            · rcases List.mem_append.mp hy with z | z
              · exact z
              · exact cut_mem z
          · have w' := ((s15.trans s16).trans s17).trans s18
            exact Mk.more (Nat.le_refl _) (by omega) (Mk.tup (h := h') (w' _ _ n14) (by rw [List.length_reverse]; omega) fun y hy => kid w18 y (List.mem_reverse.mp hy))
          · have w' := (s16.trans s17).trans s18
            exact Mk.more (Nat.le_refl _) (by omega) (Mk.tup (h := h') (w' _ _ h15) (by rw [List.length_append]; omega) fun y hy => kid w18 y ((List.mem_append.mp hy).elim id id))
          · have w' := s17.trans s18
            exact Mk.more (Nat.le_refl _) (by omega) (Mk.tup (h := h') (w' _ _ h16) (by have := cut_len xs none (some (-1)); omega) fun y hy => kid w18 y (cut_mem hy))
  refine ⟨_, (@pss_cons _ _ _ _ _ (@ps_if _ _ _ _ _ _ _ _ (@pw_and _ _ _ _ _ _ _ (@pt_val _ _ _ (@pe_callB _ _ _ _ _ _ _ _ _ call_isi (by rfl) G.isi (by rfl) (@pa_cons _ _ _ _ _ (@pv _ 1 _ _ (by rfl) (by first | exact Or.inl rfl | exact Or.inr (Or.inl rfl) | exact Or.inr (Or.inr rfl)) (by decide) (by decide)) (@pa_cons _ _ _ _ _ (@pe_bltn _ _ (.ty "tuple") (.type "tuple") _ (by rfl) G.tuple (by rfl) rfl (by decide) (by decide)) pa_nil (by rfl)) (by rfl)) (by decide) (by decide) (by rfl) (by rfl)) (by intro _; rfl)) (@pw_and _ _ _ _ _ _ _ (@pt_cmpR _ _ _ _ _ _ _ _ op_gt (@pe_callB _ _ _ _ _ _ _ _ _ call_len_seq (by rfl) G.len PySem.boot_len (@pa_cons _ _ _ _ _ (@pv _ 1 _ _ (by rfl) (by first | exact Or.inl rfl | exact Or.inr (Or.inl rfl) | exact Or.inr (Or.inr rfl)) (by decide) (by decide)) pa_nil (by rfl)) (by decide) (by decide) (by rfl) (by rfl)) pe_int (nomark _)) (@pw_and1 _ _ _ _ (@pt_cmpR _ _ _ _ _ _ _ _ op_gt (@pe_call _ _ _ _ _ _ _ _ _ _ _ _ _ _ _ _ UK.ok hr1 (by rfl) UK.m UK.kp UK.b .nil pass0 (@pa_cons _ _ _ _ _ (@pv _ 0 _ _ (by rfl) (by first | exact Or.inl rfl | exact Or.inr (Or.inl rfl) | exact Or.inr (Or.inr rfl)) (by decide) (by decide)) (@pa_cons _ _ _ _ _ pe_int pa_nil (by rfl)) (by rfl)) (by decide) (by rfl) (by rfl)) pe_int (nomark _))))).pt (@pss_cons _ _ _ _ _ (@ps_set _ _ 3 _ _ _ _ scBe.nd rfl (Or.inl rfl) (@pe_call _ _ _ _ _ _ _ _ _ _ _ _ _ _ _ _ UK.ok hr1 (by rfl) UK.m UK.kp UK.b .nil pass0 (@pa_cons _ _ _ _ _ (@pv _ 0 _ _ (by rfl) (by first | exact Or.inl rfl | exact Or.inr (Or.inl rfl) | exact Or.inr (Or.inr rfl)) (by decide) (by decide)) (@pa_cons _ _ _ _ _ (@pe_callB _ _ _ _ _ _ _ _ _ call_len_seq (by rfl) G.len PySem.boot_len (@pa_cons _ _ _ _ _ (@pv _ 1 _ _ (by rfl) (by first | exact Or.inl rfl | exact Or.inr (Or.inl rfl) | exact Or.inr (Or.inr rfl)) (by decide) (by decide)) pa_nil (by rfl)) (by decide) (by decide) (by rfl) (by rfl)) pa_nil (by rfl)) (by rfl)) (by decide) (by rfl) (by rfl)) (by rfl) (by first | exact .inl rfl | exact .inr rfl | assumption)) (@pss_one _ _ _ (@ps_ret _ _ _ _ (@pe_op _ _ _ _ _ _ _ _ op_catH (@pe_op _ _ _ _ _ _ _ _ op_catH (@pe_slice _ _ _ _ _ _ _ _ _ _ sl_tupH (@pv _ 1 _ _ (by rfl) (by first | exact Or.inl rfl | exact Or.inr (Or.inl rfl) | exact Or.inr (Or.inr rfl)) (by decide) (by decide)) po_none (@po_some _ _ _ (@pv _ 3 _ _ (by rfl) (by first | exact Or.inl rfl | exact Or.inr (Or.inl rfl) | exact Or.inr (Or.inr rfl)) (by decide) (by decide)))) (@pe_tup _ _ _ _ _ (@pa_cons _ _ _ _ _ (@pe_call _ _ _ _ _ _ _ _ _ _ _ _ _ _ _ _ UB.ok hr (by rfl) UB.m UB.kp UB.b .nil pass0 (@pa_cons _ _ _ _ _ (@pv _ 0 _ _ (by rfl) (by first | exact Or.inl rfl | exact Or.inr (Or.inl rfl) | exact Or.inr (Or.inr rfl)) (by decide) (by decide)) (@pa_cons _ _ _ _ _ (@pe_ix _ _ _ _ _ _ _ ix_tup (@pv _ 1 _ _ (by rfl) (by first | exact Or.inl rfl | exact Or.inr (Or.inl rfl) | exact Or.inr (Or.inr rfl)) (by decide) (by decide)) (@pv _ 3 _ _ (by rfl) (by first | exact Or.inl rfl | exact Or.inr (Or.inl rfl) | exact Or.inr (Or.inr rfl)) (by decide) (by decide)) (fun _ _ => rfl)) (@pa_cons _ _ _ _ _ (@pv _ 2 _ _ (by rfl) (by first | exact Or.inl rfl | exact Or.inr (Or.inl rfl) | exact Or.inr (Or.inr rfl)) (by decide) (by decide)) pa_nil (by rfl)) (by rfl)) (by rfl)) (by decide) (by rfl) (by rfl)) pa_nil (by rfl)))) (@pe_slice _ _ _ _ _ _ _ _ _ _ sl_tupH (@pv _ 1 _ _ (by rfl) (by first | exact Or.inl rfl | exact Or.inr (Or.inl rfl) | exact Or.inr (Or.inr rfl)) (by decide) (by decide)) (@po_some _ _ _ (@pe_op _ _ _ _ _ _ _ _ op_add (@pv _ 3 _ _ (by rfl) (by first | exact Or.inl rfl | exact Or.inr (Or.inl rfl) | exact Or.inr (Or.inr rfl)) (by decide) (by decide)) pe_int)) po_none))))) pss_nil) @hE), ?_⟩
  obtain ⟨ty, Iy⟩ := mx.any.isi
  refine ⟨_, rfl, _, "tuple", _, _, rfl, Iy.ty, Iy.tup, _, rfl, ?_⟩
  cases z : rowOf H x with
  | none => exact iteF (iteF (hqE H n (by omega) (But.of (Same.refl H)) S))
  | some xs =>
    obtain ⟨lx, h', rfl, mk⟩ := Mk.kids mx z
    obtain ⟨ax, rfl, hx⟩ := rowOf_some z
    refine iteT ⟨_, rfl, ax, xs, rfl, .inr (SqT.of hx), _, _, rfl, rfl, _, rfl, ?_⟩
    by_cases p0 : 0 < (xs.length : Int)
    · rw [decide_eq_true p0]
      refine iteT ⟨_, rfl, l, 5, n, rfl, by decide, by decide, S, by omega, fun v H1 v0 v1 S1 B1 => ⟨_, _, rfl, rfl, _, rfl, ?_⟩⟩
      by_cases vp : 0 < v
      · rw [decide_eq_true vp]
        have hx1 := tups_but B1 S _ _ hx
        refine iteT ⟨_, rfl, _, rfl, ax, xs, rfl, .inr (SqT.of hx1), l, _, n + 1, rfl, p0, by omega, S1, by omega, fun v2 H2 v20 v21 S2 B2 => ?_⟩
        obtain ⟨v2, rfl⟩ := Int.eq_ofNat_of_zero_le v20
        have vl : v2 < xs.length := by omega
        have hx2 := tups_but B2 S1 _ _ hx1
        have B12 := B1.trans B2
        refine ⟨_, rfl, _, rfl, _, rfl, ax, xs, rfl, hx2, fun t1 H3 s3 h3 => ?_⟩
        have S3 := S2.keep s3
        have B3 := B12.trans (But.of s3)
        refine ⟨_, rfl, _, rfl, _, rfl, ax, _, _, _, rfl, rfl, SqT.of (s3 _ _ hx2), atI_nat (List.getElem?_eq_getElem vl), _, rfl, h', rfl, l, n + 2, _, r, b, lanes, v1', v2', rfl, S3, by omega, hb, mk_but B3 S S3 (mk _ (List.getElem_mem vl)), tups_but B3 S _ _ hr0, fun y H4 my S4 B4 => ?_⟩
        refine ⟨(by show 1 ≤ sizeLine; decide), fun t2 h2 => ?_⟩
        have s5 := same_new h2 (.tup [y])
        have B5 := B4.trans (But.of s5)
        have h3' := s5 _ _ (tups_but B4 S3 _ _ h3)
        have hx5 := s5 _ _ (tups_but B4 S3 _ _ (s3 _ _ hx2))
        refine ⟨t1, t2, _, _, rfl, rfl, h3', upd_same, ?_, fun t3 H6 s6 h6 => ?_⟩
        · have := cut_len xs none (some (v2 : Int))
          exact Nat.le_trans (show _ + 1 ≤ 10000 by omega) (by decide)
        refine ⟨_, rfl, _, rfl, _, _, rfl, rfl, _, rfl, ax, xs, rfl, s6 _ _ hx5, fun t4 H7 s7 h7 => ?_⟩
        refine ⟨t3, t4, _, _, rfl, rfl, s7 _ _ h6, h7, ?_, fun t5 H8 s8 h8 => ?_⟩
        · rw [cut_upto xs v2 (by omega), show ((v2 : Int) + 1) = ((v2 + 1 : Nat) : Int) from rfl, cut_from xs (v2 + 1) (by omega), List.length_append, List.length_take, List.length_drop]
          exact Nat.le_trans (show _ ≤ 10000 by simp only [List.length_nil, List.length_cons]; omega) (by decide)
        rw [cut_upto xs v2 (by omega), show ((v2 : Int) + 1) = ((v2 + 1 : Nat) : Int) from rfl, cut_from xs (v2 + 1) (by omega)] at h8
        have S8 := ((S4.keep s5).keep s6).keep s7 |>.keep s8
        have u8 := ((s5.trans s6).trans s7).trans s8
        have B8 := B3.trans (B4.trans (But.of u8))
        have kid : ∀ y ∈ xs, Mk K H8 (2 * b + 2) (h' + 1) y := fun y hy => Mk.more (by omega) (by omega) (mk_but B8 S S8 (mk y hy))
        refine k _ _ (Mk.tup (h := h' + 1) h8 ?_ fun z hz => ?_) (S8.mono (by omega)) B8
        · rw [List.length_append, List.length_append, List.length_take, List.length_drop]
          simp only [List.length_nil, List.length_cons]; omega
        · rcases List.mem_append.mp hz with q | q
          · rcases List.mem_append.mp q with q1 | q1
            · exact kid z (List.mem_of_mem_take q1)
            · rw [List.mem_singleton.mp q1]; exact Mk.same u8 my
          · exact kid z (List.mem_of_mem_drop q)
      · rw [decide_eq_false vp]
        exact iteF (hqE H1 (n + 1) (by omega) B1 S1)
    · rw [decide_eq_false p0]
      exact iteF (iteF (hqE H n (by omega) (But.of (Same.refl H)) S))
theorem ok_bent {f fK : Addr} {fd dK : FuncData} (F : Fun K "_law_bent" "_law_bent" sBent f fd) (G : Mgs mg) (UK : Use P w K mg base "_law_take" ["_law_state", "_law_many"] 1 (spTake K) fK dK) (bS : Binds K fd ["_law_state", "_law_thing", "_law_net_here"] []) (mS : mg "_law_bent" = some (.ref f)) : ∀ h : Nat, FnOk P w K mg base CX0 (h + 2) f fd ["_law_state", "_law_thing", "_law_net_here"] (spBent K h)
  | 0 => ok_bent1 F G UK 0 ⟨⟨fun vs H Q E ⟨m, h, _⟩ => by omega, fun A outer s H args us vs Q E _ _ _ _ ⟨m, h, _⟩ => by omega⟩, bS, F.kp, mS⟩
  | m + 1 => ok_bent1 F G UK (m + 1) ⟨((ok_bent F G UK bS mS m).imp fun vs H Q E ⟨m', h, q⟩ => by cases h; exact q), bS, F.kp, mS⟩
end
end K01
end
section
set_option maxHeartbeats 4000001
namespace K01
open PySem L2 Own Bn
abbrev sLaw : Stmt := top 22
def spLaw (K : PySem.W.Frag) : Sp := fun vs H Q _ => ∃ (a : Addr) (ns : List Int), vs = [.ref a] ∧ SqL K H a (ns.map V.int) ∧ ns.length ≤ 63 ∧ ∀ H', Q (.bl true) H'
theorem mk_lst {K : PySem.W.Frag} {H H' : Hp} {l : Addr} {xs ys : List V} (e0 : H l = some (.lst xs)) (e1 : H' l = some (.lst ys)) (B : But l H H') {b : Nat} : ∀ {h : Nat} {x : V}, Mk K H b h x → Mk K H' b h x := by
  have any : ∀ {x : V}, AnyT K H x → AnyT K H' x := fun {x} h => by
    obtain ⟨T, h, t, et⟩ := h
    cases h with
    | non => exact ⟨_, .non, _, rfl⟩
    | bl b => exact ⟨_, .bl b, _, rfl⟩
    | int i => exact ⟨_, .int i, _, rfl⟩
    | str x => exact ⟨_, .str x, _, rfl⟩
    | flt x => exact ⟨_, .flt x, _, rfl⟩
    | @lst a xs e =>
      by_cases z : a = l
      · subst z; exact ⟨_, .lst e1, _, rfl⟩
      · exact ⟨_, .lst (B _ _ e z), _, rfl⟩
    | frz e => exact ⟨_, .frz (B _ _ e (by rintro rfl; rw [e0] at e; cases e)), _, rfl⟩
    | tup e => exact ⟨_, .tup (B _ _ e (by rintro rfl; rw [e0] at e; cases e)), _, rfl⟩
    | dK e => exact ⟨_, .dK (B _ _ e (by rintro rfl; rw [e0] at e; cases e)), _, rfl⟩
    | dT e => exact ⟨_, .dT (B _ _ e (by rintro rfl; rw [e0] at e; cases e)), _, rfl⟩
    | ins e _ _ _ _ _ => cases et
  have row : ∀ {x : V}, AnyT K H x → rowOf H' x = rowOf H x := fun {x} h => by
    cases z : rowOf H x with
    | some xs =>
      obtain ⟨b, rfl, hb⟩ := rowOf_some z
      exact rowOf_tup (B _ _ hb (by rintro rfl; rw [e0] at hb; cases hb))
    | none =>
      cases y : rowOf H' x with
      | none => rfl
      | some ys =>
        obtain ⟨b, rfl, hb⟩ := rowOf_some y
        have nb : b ≠ l := by rintro rfl; rw [e1] at hb; cases hb
        obtain ⟨T, ty, _⟩ := h
        cases ty with
        | tup h => rw [rowOf_tup h] at z; cases z
        | lst h => rw [B _ _ h nb] at hb; cases hb
        | frz h => rw [B _ _ h nb] at hb; cases hb
        | dK h => rw [B _ _ h nb] at hb; cases hb
        | dT h => rw [B _ _ h nb] at hb; cases hb
        | ins h => rw [B _ _ h nb] at hb; cases hb
  intro h
  induction h with
  | zero => intro x z; exact ⟨any z.1, (row z.1).trans z.2⟩
  | succ h ih => exact fun {x} z => ⟨any z.1, fun xs e => by
      rw [row z.1] at e
      exact ⟨(z.2 xs e).1, fun y hy => ih ((z.2 xs e).2 y hy)⟩⟩
theorem prs_mk {K : PySem.W.Frag} {H : Hp} {b : Nat} (hb : 2 ≤ b) : ∀ {ps : List V} {fs : List (Nat × Nat)}, Prs H ps fs → ∀ y ∈ ps, Mk K H b 1 y
  | [], [], _, y, hy => by simp at hy
  | _ :: _, _ :: _, ⟨⟨a, e, h⟩, r⟩, y, hy => by
    rcases List.mem_cons.mp hy with rfl | z
    · subst e
      exact Mk.tup (h := 0) h (by show 2 ≤ b; exact hb) fun y hy => by
        simp only [List.mem_cons, List.mem_nil_iff, or_false] at hy
        rcases hy with rfl | rfl <;> exact Mk.int _
    · exact prs_mk hb r y z
theorem net_mk {K : PySem.W.Frag} {H : Hp} {r fr er : Addr} {ps : List V} {N : Nt} (ok : N.Ok) (na : NetAt H r fr er ps N) : Mk K H 130 3 (.ref r) := by
  have fm := ok.fm
  have pl := na.prs.len
  have el : N.ends.length = N.lanes := by rw [ok.en.length_eq, List.length_range]
  have l16 := ok.l16
  refine Mk.tup (h := 2) na.net (by show 3 ≤ 130; decide) fun y hy => ?_
  simp only [List.mem_cons, List.mem_nil_iff, or_false] at hy
  rcases hy with rfl | rfl | rfl
  · exact Mk.int _
  · exact Mk.tup (h := 1) na.forks (by omega) (prs_mk (by decide) na.prs)
  · refine Mk.tup (h := 1) na.ends (by unfold nums; rw [List.length_map]; omega) fun y hy => ?_
    obtain ⟨i, _, rfl⟩ := List.mem_map.mp hy
    exact Mk.int _
theorem forks_true {H : Hp} {b : Nat} : ∀ {ps : List V} {fs : List (Nat × Nat)}, Prs H ps fs → (∀ f ∈ fs, f.1 < b ∧ f.2 < b ∧ f.1 ≠ f.2) → ps.all (forkV H b) = true
  | [], [], _, _ => rfl
  | _ :: _, f :: _, ⟨⟨a, e, h⟩, r⟩, ok => by
    rw [List.all_cons, forks_true r fun g hg => ok g (List.mem_cons_of_mem _ hg), Bool.and_true]
    obtain ⟨o1, o2, o3⟩ := ok f List.mem_cons_self
    unfold forkV
    rw [e, rowOf_tup h]
    show (belowV b (.int f.1) && (belowV b (.int f.2) && !decide (V.int f.1 = V.int f.2))) = true
    have e1 : belowV b (.int f.1) = true := by
      show (decide (0 ≤ (f.1 : Int)) && decide ((f.1 : Int) < b)) = true
      rw [decide_eq_true (by omega), decide_eq_true (by omega)]; rfl
    have e2 : belowV b (.int f.2) = true := by
      show (decide (0 ≤ (f.2 : Int)) && decide ((f.2 : Int) < b)) = true
      rw [decide_eq_true (by omega), decide_eq_true (by omega)]; rfl
    rw [e1, e2, decide_eq_false (fun z => o3 (by have := V.int.inj z; omega))]; rfl
theorem net_true {H : Hp} {r fr er : Addr} {ps : List V} {N : Nt} (ok : N.Ok) (na : NetAt H r fr er ps N) : netV H (.ref r) = true := by
  have fm := ok.fm
  have l16 := ok.l16
  have l1 := ok.l1
  have pl := na.prs.len
  have el : N.ends.length = N.lanes := by rw [ok.en.length_eq, List.length_range]
  unfold netV
  rw [rowOf_tup na.net]
  show ((decide (1 ≤ (N.lanes : Int)) && decide ((N.lanes : Int) ≤ 16)) && (forksV H N.lanes (.ref fr) && lanesV H N.lanes (.ref er))) = true
  rw [decide_eq_true (by omega), decide_eq_true (by omega), Bool.true_and, Bool.true_and]
  have e1 : forksV H N.lanes (.ref fr) = true := by
    unfold forksV
    rw [rowOf_tup na.forks]
    show (decide ((ps.length : Int) ≤ 128) && ps.all (forkV H N.lanes)) = true
    rw [decide_eq_true (by omega), forks_true na.prs ok.fk]; rfl
  have e2 : lanesV H N.lanes (.ref er) = true := by
    unfold lanesV
    rw [rowOf_tup na.ends]
    show ((decide (((nums N.ends).length : Int) = N.lanes) && (nums N.ends).all (belowV N.lanes)) && (List.range (N.lanes : Int).toNat).all (fun (i : Nat) => inV (V.int i) (nums N.ends))) = true
    have e3 : (nums N.ends).all (belowV N.lanes) = true := List.all_eq_true.mpr fun y hy => by
      obtain ⟨i, hi, rfl⟩ := List.mem_map.mp hy
      have := List.mem_range.mp (ok.en.mem_iff.mp hi)
      show (decide (0 ≤ (i : Int)) && decide ((i : Int) < N.lanes)) = true
      rw [decide_eq_true (by omega), decide_eq_true (by omega)]; rfl
    have e4 : (List.range (N.lanes : Int).toNat).all (fun (i : Nat) => inV (V.int i) (nums N.ends)) = true := List.all_eq_true.mpr fun i hi => by
      have h1 := List.mem_range.mp hi
      have h2 : i ∈ N.ends := ok.en.mem_iff.mpr (List.mem_range.mpr (by omega))
      unfold inV
      exact List.any_eq_true.mpr ⟨.int i, List.mem_map.mpr ⟨i, h2, rfl⟩, decide_eq_true rfl⟩
    rw [e3, e4, decide_eq_true (by unfold nums; rw [List.length_map]; omega)]; rfl
  rw [e1, e2]; rfl
section
variable {P : Program} {w : World} {K : PySem.W.Frag} {mg : Str → Option Value} {base : Heap}
theorem scW : FnScope ["_law_script", "_law_state", "_law_turn", "_law_net_here", "_law_full", "_law_thing"] ["_law_script"] (defScope sLaw) := ⟨rfl, rfl, rfl, by decide +kernel, rfl, by decide +kernel, by decide +kernel⟩
theorem ok_law {f fH fN fK fI fR fB fO : Addr} {fd dH dN dK dI dR dB dO : FuncData} (F : Fun K "law" "law" sLaw f fd) (G : Mgs mg) (UH : Use P w K mg base "_law_hand" ["_law_script"] 1 (spHand K) fH dH) (UN : Use P w K mg base "_law_net" ["_law_state", "_law_lanes_most", "_law_forks_most"] 2 spNet fN dN)
    (UK : Use P w K mg base "_law_take" ["_law_state", "_law_many"] 1 (spTake K) fK dK) (UI : Use P w K mg base "is_net" ["thing"] 5 (spIsNet K) fI dI) (UR : Use P w K mg base "_law_right" ["_law_thing"] 6 (spRight K) fR dR) (UB : Use P w K mg base "_law_bent" ["_law_state", "_law_thing", "_law_net_here"] 6 (spBent K 4) fB dB) (UB3 : Use P w K mg base "_law_bent" ["_law_state", "_law_thing", "_law_net_here"] 5 (spBent K 3) fB dB) (UO : Use P w K mg base "_law_odd" [] 1 (spOdd K) fO dO) : FnOk P w K mg base CX0 7 f fd ["_law_script"] (spLaw K) := by
  refine F.ok scW (fun vs H Q E h => ?_) (fun cdv A outer s H vs Q E hr h => ?_)
  · obtain ⟨a, ns, rfl, _⟩ := h
    rfl
  obtain ⟨a, ns, rfl, hS, h63, k⟩ := h
  have hr1 : Room 1 _ := hr.mono (by decide)
  have hr2 : Room 2 _ := hr.mono (by decide)
  have hr5 : Room 5 _ := hr.mono (by decide)
  refine ⟨_, (@pss_cons _ _ _ _ _ (@ps_set _ _ 1 _ _ _ _ scW.nd rfl (Or.inr rfl) (@pe_call _ _ _ _ _ _ _ _ _ _ _ _ _ _ _ _ UH.ok hr1 (by rfl) UH.m UH.kp UH.b .nil pass0 (@pa_cons _ _ _ _ _ (@pv _ 0 _ _ (by rfl) (by first | exact Or.inl rfl | exact Or.inr (Or.inl rfl) | exact Or.inr (Or.inr rfl)) (by decide) (by decide)) pa_nil (by rfl)) (by decide) (by rfl) (by rfl)) (by rfl) (by first | exact .inl rfl | exact .inr rfl | assumption)) (@pss_cons _ _ _ _ _ (@ps_if _ _ _ _ _ _ _ _ (@pt_not _ _ _ _ (@pt_val _ _ _ (@pe_callB _ _ _ _ _ _ _ _ _ (call_allB rfl true) (by rfl) G.all (by rfl) (@pa_cons _ _ _ _ _ (@pe_lc _ _ _ _ none _ _ _ _ _ _ ["_law_thing"] [none] rfl (@pi_list _ _ _ _ (@pe_call0 _ _ _ _ _ _ _ _ _ _ _ _ _ UO.ok hr1 (by rfl) UO.m UO.kp UO.b .nil pass0 (by decide))) (CapOk.of (by kernel_rfl)) (fun _ _ _ _ _ => (@pg_name _ _ 0 _ (show (["_law_thing"] : List Str).Nodup from by decide +kernel) rfl (Or.inl rfl) (Or.inr rfl))) (fun _ _ _ _ _ => pt_none) (fun _ _ _ _ _ => (@pe_call _ _ _ _ _ _ _ _ _ _ _ _ _ _ _ _ UR.ok hr (by rfl) UR.m UR.kp UR.b .nil pass0 (@pa_cons _ _ _ _ _ (@pv _ 0 _ _ (by rfl) (by first | exact Or.inl rfl | exact Or.inr (Or.inl rfl) | exact Or.inr (Or.inr rfl)) (by decide) (by decide)) pa_nil (by rfl)) (by decide) (by rfl) (by rfl))) (by intro _; rfl)) pa_nil (by rfl)) (by decide) (by decide) (by rfl) (by rfl)) (by intro _; rfl))) (@pss_one _ _ _ (@ps_ret _ _ _ _ pe_bl)) pss_nil) (@pss_cons _ _ _ _ _ (@ps_for _ _ _ _ _ _ _ _ PassesOwn.never rfl (@pi_range1 _ _ _ _ _ _ rfl G.range (@pa_cons _ _ _ _ _ pe_int pa_nil (by rfl)) (by rfl)) (@pg_name _ _ 2 _ scW.nd rfl (Or.inl rfl) (by first | exact .inl rfl | exact .inr rfl | assumption)) (@pss_cons _ _ _ _ _ (@ps_set _ _ 3 _ _ _ _ scW.nd rfl (Or.inr rfl) (@pe_call _ _ _ _ _ _ _ _ _ _ _ _ _ _ _ _ UN.ok hr2 (by rfl) UN.m UN.kp UN.b .nil pass0 (@pa_cons _ _ _ _ _ (@pv _ 1 _ _ (by rfl) (by first | exact Or.inl rfl | exact Or.inr (Or.inl rfl) | exact Or.inr (Or.inr rfl)) (by decide) (by decide)) (@pa_cons _ _ _ _ _ pe_int (@pa_cons _ _ _ _ _ pe_int pa_nil (by rfl)) (by rfl)) (by rfl)) (by decide) (by rfl) (by rfl)) (by rfl) (by first | exact .inl rfl | exact .inr rfl | assumption)) (@pss_cons _ _ _ _ _ (@ps_if _ _ _ _ _ _ _ _ (@pt_cmpR _ _ _ _ _ _ _ _ op_notB (@pe_call _ _ _ _ _ _ _ _ _ _ _ _ _ _ _ _ UI.ok hr5 (by rfl) UI.m UI.kp UI.b .nil pass0 (@pa_cons _ _ _ _ _ (@pv _ 3 _ _ (by rfl) (by first | exact Or.inl rfl | exact Or.inr (Or.inl rfl) | exact Or.inr (Or.inr rfl)) (by decide) (by decide)) pa_nil (by rfl)) (by decide) (by rfl) (by rfl)) pe_bl (by rfl)) (@pss_one _ _ _ (@ps_ret _ _ _ _ pe_bl)) pss_nil) (@pss_cons _ _ _ _ _ (@ps_set _ _ 4 _ _ _ _ scW.nd rfl (Or.inl rfl) (@pe_tup _ _ _ _ _ (@pa_cons _ _ _ _ _ pe_int (@pa_cons _ _ _ _ _ (@pe_op _ _ _ _ _ _ _ _ op_rep1 (@pe_tup _ _ _ _ _ (@pa_cons _ _ _ _ _ (@pe_tup _ _ _ _ _ (@pa_cons _ _ _ _ _ pe_int (@pa_cons _ _ _ _ _ pe_int pa_nil (by rfl)) (by rfl))) pa_nil (by rfl))) (@pe_op _ _ _ _ _ _ _ _ op_add pe_int (@pe_call _ _ _ _ _ _ _ _ _ _ _ _ _ _ _ _ UK.ok hr1 (by rfl) UK.m UK.kp UK.b .nil pass0 (@pa_cons _ _ _ _ _ (@pv _ 1 _ _ (by rfl) (by first | exact Or.inl rfl | exact Or.inr (Or.inl rfl) | exact Or.inr (Or.inr rfl)) (by decide) (by decide)) (@pa_cons _ _ _ _ _ pe_int pa_nil (by rfl)) (by rfl)) (by decide) (by rfl) (by rfl)))) (@pa_cons _ _ _ _ _ (@pe_tup _ _ _ _ _ (@pa_cons _ _ _ _ _ pe_int (@pa_cons _ _ _ _ _ pe_int pa_nil (by rfl)) (by rfl))) pa_nil (by rfl)) (by rfl)) (by rfl))) (by rfl) (by first | exact .inl rfl | exact .inr rfl | assumption)) (@pss_one _ _ _ (@ps_for _ _ _ _ _ _ _ _ PassesOwn.never rfl (@pi_list _ _ _ _ (@pe_op _ _ _ _ _ _ _ _ op_cat (@pe_lst _ _ _ _ (@pa_cons _ _ _ _ _ (@pv _ 4 _ _ (by rfl) (by first | exact Or.inl rfl | exact Or.inr (Or.inl rfl) | exact Or.inr (Or.inr rfl)) (by decide) (by decide)) pa_nil (by rfl))) (@pe_lc _ _ _ _ none _ _ _ _ _ _ ["_law_k", "_law_state", "_law_net_here"] [none, some 1, some 3] rfl (@pi_range1 _ _ _ _ _ _ rfl G.range (@pa_cons _ _ _ _ _ pe_int pa_nil (by rfl)) (by rfl)) (CapOk.of (by kernel_rfl)) (fun _ _ _ _ _ => (@pg_name _ _ 0 _ (show (["_law_k", "_law_state", "_law_net_here"] : List Str).Nodup from by decide +kernel) rfl (Or.inl rfl) (Or.inr rfl))) (fun _ _ _ _ _ => pt_none) (fun _ _ _ _ _ => (@pe_call _ _ _ _ _ _ _ _ _ _ _ _ _ _ _ _ UB3.ok hr5 (by rfl) UB3.m UB3.kp UB3.b .nil pass0 (@pa_cons _ _ _ _ _ (@pv _ 1 _ _ (by rfl) (by first | exact Or.inl rfl | exact Or.inr (Or.inl rfl) | exact Or.inr (Or.inr rfl)) (by decide) (by decide)) (@pa_cons _ _ _ _ _ (@pv _ 2 _ _ (by rfl) (by first | exact Or.inl rfl | exact Or.inr (Or.inl rfl) | exact Or.inr (Or.inr rfl)) (by decide) (by decide)) (@pa_cons _ _ _ _ _ (@pv _ 2 _ _ (by rfl) (by first | exact Or.inl rfl | exact Or.inr (Or.inl rfl) | exact Or.inr (Or.inr rfl)) (by decide) (by decide)) pa_nil (by rfl)) (by rfl)) (by rfl)) (by decide) (by rfl) (by rfl))) (by intro _; rfl)))) (@pg_name _ _ 5 _ scW.nd rfl (Or.inl rfl) (by first | exact .inl rfl | exact .inr rfl | assumption)) (@pss_one _ _ _ (@ps_if _ _ _ _ _ _ _ _ (@pw_or _ _ _ _ _ _ _ (@pt_not _ _ _ _ (@pt_truth _ _ _ (@pe_call _ _ _ _ _ _ _ _ _ _ _ _ _ _ _ _ UR.ok hr (by rfl) UR.m UR.kp UR.b .nil pass0 (@pa_cons _ _ _ _ _ (@pv _ 5 _ _ (by rfl) (by first | exact Or.inl rfl | exact Or.inr (Or.inl rfl) | exact Or.inr (Or.inr rfl)) (by decide) (by decide)) pa_nil (by rfl)) (by decide) (by rfl) (by rfl)) (fun _ => rfl))) (@pw_or1 _ _ _ _ (@pt_not _ _ _ _ (@pt_truth _ _ _ (@pe_call _ _ _ _ _ _ _ _ _ _ _ _ _ _ _ _ UR.ok hr (by rfl) UR.m UR.kp UR.b .nil pass0 (@pa_cons _ _ _ _ _ (@pe_call _ _ _ _ _ _ _ _ _ _ _ _ _ _ _ _ UB.ok hr (by rfl) UB.m UB.kp UB.b .nil pass0 (@pa_cons _ _ _ _ _ (@pv _ 1 _ _ (by rfl) (by first | exact Or.inl rfl | exact Or.inr (Or.inl rfl) | exact Or.inr (Or.inr rfl)) (by decide) (by decide)) (@pa_cons _ _ _ _ _ (@pv _ 5 _ _ (by rfl) (by first | exact Or.inl rfl | exact Or.inr (Or.inl rfl) | exact Or.inr (Or.inr rfl)) (by decide) (by decide)) (@pa_cons _ _ _ _ _ (@pv _ 3 _ _ (by rfl) (by first | exact Or.inl rfl | exact Or.inr (Or.inl rfl) | exact Or.inr (Or.inr rfl)) (by decide) (by decide)) pa_nil (by rfl)) (by rfl)) (by rfl)) (by decide) (by rfl) (by rfl)) pa_nil (by rfl)) (by decide) (by rfl) (by rfl)) (fun _ => rfl))))).pt (@pss_one _ _ _ (@ps_ret _ _ _ _ pe_bl)) pss_nil)) (by intro _; rfl)))))) (by intro _; rfl)) (@pss_one _ _ _ (@ps_ret _ _ _ _ pe_bl))))), ?_⟩
  refine ⟨_, rfl, a, ns, rfl, hS, h63, fun l H1 hl s1 S1 => ?_⟩
  refine ⟨rfl, fun lo xo H2 s2 h2 lx mo => ?_⟩
  refine ⟨lo, rfl, ⟨_, SqL.of h2⟩, fun lq hlq => ?_⟩
  refine lc_list (K := K) (a := lo) (xs := xo) (fun j acc σ H3 => (∃ v, σ = [v]) ∧ Same H2 H3 ∧ H3 lq = some (.lst acc) ∧ acc = (List.replicate j true).map V.bl) ⟨⟨_, rfl⟩, same_new hlq _, upd_same, rfl⟩ (fun j acc σ H3 q => ⟨q.2.2.1, SqL.of (q.2.1 _ _ h2)⟩) ?_ ?_
  · rintro j x acc σ H3 hx ⟨⟨v, rfl⟩, s3, h3, rfl⟩
    have jl := (List.getElem?_eq_some_iff.mp hx).1
    refine ⟨_, rfl, x, rfl, Mk.deep (by decide) 3 (Mk.same s3 (mo x (List.mem_of_getElem? hx))), fun H4 s4 => ?_⟩
    refine ⟨s4 _ _ h3, ?_, nx jl ⟨⟨_, rfl⟩, fun g o e => ?_, upd_same, ?_⟩⟩
    · rw [List.length_map, List.length_replicate]; exact Nat.lt_of_lt_of_le (show j < 1000 by omega) (by decide)
    · rw [upd_ne (ne_of_none e hlq)]; exact s4 _ _ (s3 g o e)
    · rw [List.replicate_succ', List.map_append]; rfl
  rintro acc σ H3 ⟨⟨v, rfl⟩, s3, h3, rfl⟩
  refine ⟨lq, List.replicate xo.length true, rfl, SqL.of h3, _, rfl, ?_⟩
  have e0 : (List.replicate xo.length true).all id = true := List.all_eq_true.mpr fun x hx => List.eq_of_mem_replicate hx
  rw [e0]
  refine iteF ?_
  have S3 : StAt H3 l 0 := (S1.keep s2).keep s3
  refine ⟨6, rfl, by omega, by omega, ?_⟩
  refine for_range (lo := 0) (fun i σ H4 => (∃ v2 v3 v4 v5, σ = [some (.ref a), some (.ref l), v2, v3, v4, v5]) ∧ StAt H4 l (2000 * i)) ⟨⟨_, _, _, _, rfl⟩, S3⟩ ?_ (fun σ H4 _ => k H4)
  rintro i σ H4 hi ⟨⟨v2, v3, v4, v5, rfl⟩, S4⟩
  refine ⟨_, rfl, l, _, rfl, S4, by omega, fun r fr er ps N H5 ok na5 S5 B5 => ?_⟩
  have mk5 : Mk K H5 130 3 (.ref r) := net_mk ok na5
  refine ⟨_, rfl, _, rfl, Mk.deep (by decide) 3 mk5, fun H6 s6 => ?_⟩
  rw [net_true ok na5]
  refine ⟨_, _, rfl, rfl, _, rfl, iteF ?_⟩
  have S6 := S5.keep s6
  have mk6 := Mk.same s6 mk5
  have r6 := s6 _ _ na5.net
  refine ⟨(by show 2 ≤ sizeLine; decide), fun t1 h1 => ⟨(by show 1 ≤ sizeLine; decide), fun t2 h2' => ?_⟩⟩
  have s7 := same_new h1 (.tup [.int 0, .int 1])
  have s8 := same_new h2' (.tup [.ref t1])
  have n7 := newAt h1 (.tup [.int 0, .int 1])
  have n8 := newAt h2' (.tup [.ref t1])
  have S8 := (S6.keep s7).keep s8
  refine ⟨_, rfl, l, 3, _, rfl, by decide, by decide, S8, by omega, fun v H9 v0 v1 S9 B9 => ?_⟩
  obtain ⟨v, rfl⟩ := Int.eq_ofNat_of_zero_le v0
  have n7' := tups_but B9 S8 _ _ (s8 _ _ n7)
  have n8' := tups_but B9 S8 _ _ n8
  refine ⟨_, _, rfl, rfl, t2, _, 127 + v, rfl, by rfl, n8', by omega, fun t3 H10 s10 h10 => ?_⟩
  refine ⟨(by show 2 ≤ sizeLine; decide), fun t4 h4 => ?_⟩
  have s11 := same_new h4 (.tup [.int 1, .int 0])
  have n11 := newAt h4 (.tup [.int 1, .int 0])
  refine ⟨(by show 3 ≤ sizeLine; decide), fun t5 h5 => ?_⟩
  have s12 := same_new h5 (.tup [.int 2, .ref t3, .ref t4])
  have n12 := newAt h5 (.tup [.int 2, .ref t3, .ref t4])
  have u12 := (s10.trans s11).trans s12
  have two : ∀ {H : Hp} {t : Addr} {x y : Int}, H t = some (.tup [.int x, .int y]) → Mk K H 130 1 (.ref t) := fun e => Mk.tup (h := 0) e (by show 2 ≤ 130; decide) fun y hy => by
    simp only [List.mem_cons, List.mem_nil_iff, or_false] at hy
    rcases hy with rfl | rfl <;> exact Mk.int _
  have mk12 : Mk K _ 130 3 (.ref t5) := Mk.tup (h := 2) n12 (by show 3 ≤ 130; decide) fun y hy => by
    simp only [List.mem_cons, List.mem_nil_iff, or_false] at hy
    rcases hy with rfl | rfl | rfl
    · exact Mk.int _
    · refine Mk.tup (h := 1) ((s11.trans s12) _ _ h10) (by rw [List.length_replicate]; omega) fun y hy => ?_
      rw [List.eq_of_mem_replicate hy]
      exact two (u12 _ _ n7')
    · exact Mk.more (Nat.le_refl _) (by decide) (two (s12 _ _ n11))
  have S12 := S9.keep u12
  have B12 : But l H6 _ := ((But.of (s7.trans s8)).trans B9).trans (But.of u12)
  have mkn := mk_but B12 S6 S12 mk6
  have rn := tups_but B12 S6 _ _ r6
  generalize hG : upd _ t5 _ = HG at n12 mk12 S12 mkn rn
  refine ⟨_, rfl, (by show 1 ≤ sizeLine; decide), fun p1 hp1 => ?_⟩
  have s13 := same_new hp1 (.lst [.ref t5])
  have n13 := newAt hp1 (.lst [.ref t5])
  have S13 := S12.keep s13
  have np1 : p1 ≠ l := by
    rintro rfl
    obtain ⟨_, _, _, e, _⟩ := S12.ex
    rw [e] at hp1; cases hp1
  have mkn13 := Mk.same s13 mkn
  have rn13 := s13 _ _ rn
  have mf13 := Mk.same s13 mk12
  generalize upd HG p1 _ = HF at s13 n13 S13 mkn13 rn13 mf13
  refine ⟨8, rfl, by omega, by omega, fun lr hlr => ?_⟩
  have nlr : lr ≠ l := by
    rintro rfl
    obtain ⟨_, _, _, e, _⟩ := S13.ex
    rw [e] at hlr; cases hlr
  have nlr1 : lr ≠ p1 := by rintro rfl; rw [n13] at hlr; cases hlr
  refine lc_range (lo := 0) (n := 8) (fun j acc σ H14 => (∃ v, σ = [v, some (.ref l), some (.ref r)]) ∧ StAt H14 l (2000 * i + 501 + 15 * j) ∧ But l HF H14 ∧ H14 lr = some (.lst acc) ∧ acc.length = j ∧ ∀ y ∈ acc, Mk K H14 262 4 y) ⟨⟨_, rfl⟩, (S13.keep (same_new hlr _)).mono (by omega), But.of (same_new hlr _), upd_same, rfl, fun y hy => by simp at hy⟩ (fun j acc σ H14 q => q.2.2.2.1) ?_ ?_
  · rintro j acc σ H14 hj ⟨⟨v, rfl⟩, S14, B14, h14, la, ma⟩
    refine ⟨_, rfl, _, rfl, _, rfl, l, _, _, r, 130, _, _, _, rfl, S14, by omega, by decide, Mk.more (Nat.le_refl _) (by decide) (mk_but B14 S13 S14 mkn13), tups_but B14 S13 _ _ rn13, fun y H15 my S15 B15 => ?_⟩
    have h15 := B15 _ _ h14 nlr
    refine ⟨h15, Nat.lt_of_lt_of_le (show _ < 1000 by omega) (by decide), nx hj ⟨⟨_, rfl⟩, ?_, ?_, upd_same, by rw [List.length_append, la]; rfl, fun z hz => ?_⟩⟩
    · exact (S15.upd nlr.symm).mono (by omega)
    · intro g o e n
      rw [upd_ne (ne_of_none e hlr)]
      exact B15 _ _ (B14 g o e n) n
    · have nb : But lr H15 (upd H15 lr (.lst (acc ++ [y]))) := fun g o e n => by rw [upd_ne n]; exact e
      have keep : ∀ {h : Nat} {x : V}, Mk K H15 262 h x → Mk K (upd H15 lr (.lst (acc ++ [y]))) 262 h x := mk_lst h15 upd_same nb
      rcases List.mem_append.mp hz with q | q
      · exact keep (mk_but B15 S14 S15 (ma z q))
      · rw [List.mem_singleton.mp q]; exact keep (Mk.more (by decide) (by decide) my)
  rintro acc σ H14 ⟨⟨v, rfl⟩, S14, B14, h14, la, ma⟩
  have h14' := B14 _ _ n13 np1
  refine ⟨p1, lr, _, _, rfl, rfl, h14', h14, by rw [la]; show 1 + 8 ≤ sizeLine; decide, fun p2 hp2 => ?_⟩
  have s16 := same_new hp2 (.lst ([.ref t5] ++ acc))
  have n16 := newAt hp2 (.lst ([.ref t5] ++ acc))
  have np2 : p2 ≠ l := by
    rintro rfl
    obtain ⟨_, _, _, e, _⟩ := S14.ex
    rw [e] at hp2; cases hp2
  have S16 := S14.keep s16
  have B16 := B14.trans (But.of s16)
  have mk16 : ∀ y ∈ [V.ref t5] ++ acc, Mk K _ 262 4 y := fun y hy => Mk.same s16 ((List.mem_append.mp hy).elim (fun q => by
    rw [List.mem_singleton.mp q]
    exact Mk.more (by decide) (by decide) (mk_but B14 S13 S14 mf13)) (ma y))
  have l9 : ([V.ref t5] ++ acc).length = 9 := by rw [List.length_append, la]; rfl
  generalize upd H14 p2 _ = HL at s16 n16 S16 B16 mk16
  generalize [V.ref t5] ++ acc = xs at n16 mk16 l9
  refine ⟨p2, rfl, ⟨_, SqL.of n16⟩, ?_⟩
  refine for_list (K := K) (a := p2) (xs := xs) (fun j σ H17 => (∃ v5, σ = [some (.ref a), some (.ref l), some (.int (0 + (i : Nat))), some (.ref r), some (.ref t5), v5]) ∧ StAt H17 l (2000 * i + 700 + 15 * j) ∧ But l HL H17) ⟨⟨_, rfl⟩, S16.mono (by omega), But.of (Same.refl _)⟩ (fun j σ H17 _ q => SqL.of (q.2.2 _ _ n16 np2)) ?_ ?_
  · rintro j x σ H17 hx ⟨⟨v5, rfl⟩, S17, B17⟩
    have jl := (List.getElem?_eq_some_iff.mp hx).1
    have mx := mk_but B17 S16 S17 (mk16 x (List.mem_of_getElem? hx))
    refine ⟨_, rfl, x, rfl, Mk.deep (by decide) 3 mx, fun H18 s18 => ⟨true, rfl, ?_⟩⟩
    refine iteF ⟨_, rfl, _, rfl, _, rfl, l, _, x, r, 262, _, _, _, rfl, S17.keep s18, by omega, by decide, Mk.same s18 mx, s18 _ _ (tups_but (B16.trans B17) S13 _ _ rn13), fun y H19 my S19 B19 => ?_⟩
    refine ⟨y, rfl, Mk.deep (by decide) 3 my, fun H20 s20 => ⟨true, rfl, iteF ⟨⟨_, rfl⟩, (S19.keep s20).mono (by omega), ?_⟩⟩⟩
    exact ((B17.trans (But.of s18)).trans B19).trans (But.of s20)
  · rintro σ H17 ⟨⟨v5, rfl⟩, S17, B17⟩
    exact ⟨⟨_, _, _, _, rfl⟩, S17.mono (by omega)⟩
end
end K01
end
namespace K01
open PySem L2 Own Bn
/-- a def as the top has written it -/
structure FnAt (K : PySem.W.Frag) (x : Str) (st : Stmt) (f : Addr) (fd : FuncData) : Prop where
  ns : PySem.W.nsIn K mainGlobals x = some (some (.ref f))
  fn : Fun K x x st f fd
theorem fn_at {K : PySem.W.Frag} {x : Str} {st : Stmt} {f : Addr} {oc : Value} {od an : Option Addr} {osl : Array (Option Value)} {kV doc pm cdv ct : Value} (a : PySem.W.nsIn K mainGlobals x = some (some (.ref f)))
    (l : K.lookup f = some ⟨oc, od, .func (PySem.W.fnOf x x (defArgs st) (defBody st) (defScope st) .none kV doc pm an cdv ct), osl⟩) (c : PySem.W.codeIn K cdv x = true) (k : PySem.W.keepIn K (.ref f) = true) : FnAt K x st f (PySem.W.fnOf x x (defArgs st) (defBody st) (defScope st) .none kV doc pm an cdv ct) := ⟨a, fun_mk l c k⟩
theorem all_mk {l : PySem.W.OpenLaw} {w : World} {K : PySem.W.Frag} {h : Heap} {mg : Str → Option Value} {fa f1 f2 f3 f4 f5 f6 f7 f8 f9 f10 f11 f12 f13 f14 f15 f16 f17 f18 : Addr} {d1 d2 d3 d4 d5 d6 d7 d8 d9 d10 d11 d12 d13 d14 d15 d16 d17 d18 : FuncData} (X : K.In h) (G : h.Ns mainGlobals mg) (hfa : mg "law" = some (.ref fa))
    (A1 : FnAt K "_law_hand" sHand f1 d1)
    (A2 : FnAt K "_law_take" sTake f2 d2)
    (A3 : FnAt K "_law_net" sNet f3 d3)
    (A4 : FnAt K "is_whole" sWhole f4 d4)
    (A5 : FnAt K "is_below" sBelow f5 d5)
    (A6 : FnAt K "is_row" sIsRow f6 d6)
    (A7 : FnAt K "are_below" sAreBelow f7 d7)
    (A8 : FnAt K "is_fork" sIsFork f8 d8)
    (A9 : FnAt K "are_forks" sAreForks f9 d9)
    (A10 : FnAt K "are_all_lanes" sAllLanes f10 d10)
    (A11 : FnAt K "is_net" sIsNet f11 d11)
    (A12 : FnAt K "_law_truth" sTruth f12 d12)
    (A13 : FnAt K "_law_whole" sWholeL f13 d13)
    (A14 : FnAt K "_law_is_net" sIsNetL f14 d14)
    (A15 : FnAt K "_law_right" sRight f15 d15)
    (A16 : FnAt K "_law_odd" sOdd f16 d16)
    (A17 : FnAt K "_law_bent" sBent f17 d17)
    (A18 : FnAt K "law" sLaw f18 d18)
    (z1 : PySem.W.nsIn K mainGlobals "len" = some none)
    (z2 : PySem.W.nsIn K mainGlobals "range" = some none)
    (z3 : PySem.W.nsIn K mainGlobals "tuple" = some none)
    (z4 : PySem.W.nsIn K mainGlobals "enumerate" = some none)
    (z5 : PySem.W.nsIn K mainGlobals "abs" = some none)
    (z6 : PySem.W.nsIn K mainGlobals "zip" = some none)
    (z7 : PySem.W.nsIn K mainGlobals "isinstance" = some none)
    (z8 : PySem.W.nsIn K mainGlobals "all" = some none)
    (z9 : PySem.W.nsIn K mainGlobals "sum" = some none)
    (z10 : PySem.W.nsIn K mainGlobals "bool" = some none)
    (z11 : PySem.W.nsIn K mainGlobals "int" = some none)
    (z12 : PySem.W.nsIn K mainGlobals "str" = some none)
    (z13 : PySem.W.nsIn K mainGlobals "max" = some none)
    (z14 : PySem.W.nsIn K mainGlobals "min" = some none)
    (z15 : PySem.W.nsIn K mainGlobals "sorted" = some none)
    (z16 : PySem.W.nsIn K mainGlobals "list" = some none)
    {tk0 : Tok} (zk0 : PySem.W.nsIn K mainGlobals "MOST_LANES" = some (some (.int 16 tk0)))
    {tk1 : Tok} (zk1 : PySem.W.nsIn K mainGlobals "MOST_FORKS" = some (some (.int 128 tk1)))
    : ∃ fd : FuncData, (∀ (s : Shared) (v : Value), BindsTo s fd ⟨[v], []⟩ [("_law_script", v)]) ∧ ∀ base : Heap, K.In base → base.Ns mainGlobals mg → FnOk l.prog w K mg base CX0 7 fa fd ["_law_script"] (spLaw K) := by
  have e := hfa.symm.trans (PySem.W.mg_of X G A18.ns)
  cases e
  have M : Mgs mg := ⟨PySem.W.mg_none_of X G z1, PySem.W.mg_none_of X G z2, PySem.W.mg_none_of X G z3, PySem.W.mg_none_of X G z4, PySem.W.mg_none_of X G z5, PySem.W.mg_none_of X G z6, PySem.W.mg_none_of X G z7, PySem.W.mg_none_of X G z8, PySem.W.mg_none_of X G z9, PySem.W.mg_none_of X G z10, PySem.W.mg_none_of X G z11, PySem.W.mg_none_of X G z12, PySem.W.mg_none_of X G z13, PySem.W.mg_none_of X G z14, PySem.W.mg_none_of X G z15, PySem.W.mg_none_of X G z16⟩
  have kc0 := PySem.W.mg_of X G zk0
  have kc1 := PySem.W.mg_of X G zk1
  have b1 := A1.fn.binds (ps := ["_law_script"]) fun _ _ _ _ _ _ us hl => match us, hl with | [_], _ => rfl
  have m1 := PySem.W.mg_of X G A1.ns
  have b2 := A2.fn.binds (ps := ["_law_state", "_law_many"]) fun _ _ _ _ _ _ us hl => match us, hl with | [_, _], _ => rfl
  have m2 := PySem.W.mg_of X G A2.ns
  have b3 := A3.fn.binds (ps := ["_law_state", "_law_lanes_most", "_law_forks_most"]) fun _ _ _ _ _ _ us hl => match us, hl with | [_, _, _], _ => rfl
  have m3 := PySem.W.mg_of X G A3.ns
  have b4 := A4.fn.binds (ps := ["thing"]) fun _ _ _ _ _ _ us hl => match us, hl with | [_], _ => rfl
  have m4 := PySem.W.mg_of X G A4.ns
  have b5 := A5.fn.binds (ps := ["thing", "bound"]) fun _ _ _ _ _ _ us hl => match us, hl with | [_, _], _ => rfl
  have m5 := PySem.W.mg_of X G A5.ns
  have b6 := A6.fn.binds (ps := ["thing", "many"]) fun _ _ _ _ _ _ us hl => match us, hl with | [_, _], _ => rfl
  have m6 := PySem.W.mg_of X G A6.ns
  have b7 := A7.fn.binds (ps := ["thing", "many", "bound"]) fun _ _ _ _ _ _ us hl => match us, hl with | [_, _, _], _ => rfl
  have m7 := PySem.W.mg_of X G A7.ns
  have b8 := A8.fn.binds (ps := ["lanes", "thing"]) fun _ _ _ _ _ _ us hl => match us, hl with | [_, _], _ => rfl
  have m8 := PySem.W.mg_of X G A8.ns
  have b9 := A9.fn.binds (ps := ["lanes", "thing"]) fun _ _ _ _ _ _ us hl => match us, hl with | [_, _], _ => rfl
  have m9 := PySem.W.mg_of X G A9.ns
  have b10 := A10.fn.binds (ps := ["lanes", "thing"]) fun _ _ _ _ _ _ us hl => match us, hl with | [_, _], _ => rfl
  have m10 := PySem.W.mg_of X G A10.ns
  have b11 := A11.fn.binds (ps := ["thing"]) fun _ _ _ _ _ _ us hl => match us, hl with | [_], _ => rfl
  have m11 := PySem.W.mg_of X G A11.ns
  have b12 := A12.fn.binds (ps := ["_law_found", "_law_due"]) fun _ _ _ _ _ _ us hl => match us, hl with | [_, _], _ => rfl
  have m12 := PySem.W.mg_of X G A12.ns
  have b13 := A13.fn.binds (ps := ["_law_thing", "_law_least", "_law_most"]) fun _ _ _ _ _ _ us hl => match us, hl with | [_, _, _], _ => rfl
  have m13 := PySem.W.mg_of X G A13.ns
  have b14 := A14.fn.binds (ps := ["_law_thing"]) fun _ _ _ _ _ _ us hl => match us, hl with | [_], _ => rfl
  have m14 := PySem.W.mg_of X G A14.ns
  have b15 := A15.fn.binds (ps := ["_law_thing"]) fun _ _ _ _ _ _ us hl => match us, hl with | [_], _ => rfl
  have m15 := PySem.W.mg_of X G A15.ns
  have b16 := A16.fn.binds (ps := []) fun _ _ _ _ _ _ us hl => match us, hl with | [], _ => rfl
  have m16 := PySem.W.mg_of X G A16.ns
  have b17 := A17.fn.binds (ps := ["_law_state", "_law_thing", "_law_net_here"]) fun _ _ _ _ _ _ us hl => match us, hl with | [_, _, _], _ => rfl
  have m17 := PySem.W.mg_of X G A17.ns
  obtain ⟨oc, od, kV, doc, pm, an, cdv, ct, osl, ed, _, _⟩ := id A18.fn.ex
  refine ⟨d18, fun s v => by rw [ed]; exact .of_eq rfl, fun base _ _ => ?_⟩
  have U1 : Use l.prog w K mg base "_law_hand" ["_law_script"] 1 (spHand K) f1 d1 := ⟨ok_hand A1.fn M, b1, A1.fn.kp, m1⟩
  have U2 : Use l.prog w K mg base "_law_take" ["_law_state", "_law_many"] 1 (spTake K) f2 d2 := ⟨ok_take A2.fn, b2, A2.fn.kp, m2⟩
  have U3 : Use l.prog w K mg base "_law_net" ["_law_state", "_law_lanes_most", "_law_forks_most"] 2 spNet f3 d3 := ⟨ok_net A3.fn M U2, b3, A3.fn.kp, m3⟩
  have U4 : Use l.prog w K mg base "is_whole" ["thing"] 1 (spWhole K) f4 d4 := ⟨ok_whole A4.fn M, b4, A4.fn.kp, m4⟩
  have U5 : Use l.prog w K mg base "is_below" ["thing", "bound"] 2 (spBelow K) f5 d5 := ⟨ok_below A5.fn M U4, b5, A5.fn.kp, m5⟩
  have U6 : Use l.prog w K mg base "is_row" ["thing", "many"] 1 (spIsRow K) f6 d6 := ⟨ok_isrow A6.fn M, b6, A6.fn.kp, m6⟩
  have U7 : Use l.prog w K mg base "are_below" ["thing", "many", "bound"] 3 (spAreBelow K) f7 d7 := ⟨ok_arebelow A7.fn M U6 U5, b7, A7.fn.kp, m7⟩
  have U8 : Use l.prog w K mg base "is_fork" ["lanes", "thing"] 3 (spIsFork K) f8 d8 := ⟨ok_isfork A8.fn M U6 U5, b8, A8.fn.kp, m8⟩
  have U9 : Use l.prog w K mg base "are_forks" ["lanes", "thing"] 4 (spAreForks K) f9 d9 := ⟨ok_areforks A9.fn M kc1 U8, b9, A9.fn.kp, m9⟩
  have U10 : Use l.prog w K mg base "are_all_lanes" ["lanes", "thing"] 4 (spAllLanes K) f10 d10 := ⟨ok_alllanes A10.fn M U7, b10, A10.fn.kp, m10⟩
  have U11 : Use l.prog w K mg base "is_net" ["thing"] 5 (spIsNet K) f11 d11 := ⟨ok_isnet A11.fn M kc0 U6 U4 U9 U10, b11, A11.fn.kp, m11⟩
  have U12 : Use l.prog w K mg base "_law_truth" ["_law_found", "_law_due"] 1 spTruth f12 d12 := ⟨ok_truth A12.fn M, b12, A12.fn.kp, m12⟩
  have U13 : Use l.prog w K mg base "_law_whole" ["_law_thing", "_law_least", "_law_most"] 1 (spWholeL K) f13 d13 := ⟨ok_wholel A13.fn M, b13, A13.fn.kp, m13⟩
  have U14 : Use l.prog w K mg base "_law_is_net" ["_law_thing"] 2 (spIsNet K) f14 d14 := ⟨ok_isnetl A14.fn M U13, b14, A14.fn.kp, m14⟩
  have U15 : Use l.prog w K mg base "_law_right" ["_law_thing"] 6 (spRight K) f15 d15 := ⟨ok_right A15.fn M U14 U11 U12, b15, A15.fn.kp, m15⟩
  have U16 : Use l.prog w K mg base "_law_odd" [] 1 (spOdd K) f16 d16 := ⟨ok_odd A16.fn M, b16, A16.fn.kp, m16⟩
  have U17 : Use l.prog w K mg base "_law_bent" ["_law_state", "_law_thing", "_law_net_here"] 6 (spBent K 4) f17 d17 := ⟨ok_bent A17.fn M U2 b17 m17 4, b17, A17.fn.kp, m17⟩
  have U17_3 : Use l.prog w K mg base "_law_bent" ["_law_state", "_law_thing", "_law_net_here"] 5 (spBent K 3) f17 d17 := ⟨ok_bent A17.fn M U2 b17 m17 3, b17, A17.fn.kp, m17⟩
  exact ok_law A18.fn M U1 U3 U2 U11 U15 U17 U17_3 U16
theorem walk {l : PySem.W.OpenLaw} {q : Program} {loose : List Str} {XP : (Str → Option Value) → Heap → Prop} {YP : World → Heap → Prop} {d : DefRec} {K : Params → PySem.W.Frag} (hn : l.most = some 63) (hdf : d.params.defaults = [])
    (hY : ∀ (w : World) (h : Heap), YP w h → (K w.params).In h)
    (F : ∀ (w : World) (mg : Str → Option Value) (fa : Addr) (h : Heap), (K w.params).In h → h.Ns mainGlobals mg → mg d.name = some (.ref fa) →
      ∃ fd : FuncData, (∀ (s : Shared) (u : Value), BindsTo s fd ⟨[u], []⟩ [("_law_script", u)]) ∧ ∀ base : Heap, (K w.params).In base → base.Ns mainGlobals mg → FnOk l.prog w (K w.params) mg base CX0 7 fa fd ["_law_script"] (spLaw (K w.params))) :
    PySem.W.WalkO q loose XP YP l.row.toRowW d [] (fun f vs => PySem.call f vs) :=
  L2.walk_ofK (n := 63) (k := 7) (x := "_law_script") (CX := CX0) (sp := spLaw) hn (by decide) hdf ⟨rfl, by decide, by decide, rfl⟩ hY F (fun _ _ a ns hl _ hS => ⟨a, ns, rfl, hS, hl, fun _ => rfl⟩) fun _ _ _ _ z => z
end K01
open PySem PySem.W PyProof.Rows
set_option maxRecDepth 100000 in
set_option maxHeartbeats 0 in
theorem PySem.Challenge.cw_stairlanes_k01_nets_of_anything_holds : PySem.Challenge.rw_stairlanes_k01_nets_of_anything.Holds := by
  w_on; o_law; k_head; (case hw => w_witness2)
  k_fill
  refine K01.walk (l := PySem.Challenge.rw_stairlanes_k01_nets_of_anything) rfl rfl (fun w h Y => PySem.W.kIn_of Y) ?F
  case F =>
    intro w mg fa h KX G hmg
    refine' K01.all_mk KX G hmg (K01.fn_at ?a1 ?l1 ?c1 ?k1) (K01.fn_at ?a2 ?l2 ?c2 ?k2) (K01.fn_at ?a3 ?l3 ?c3 ?k3) (K01.fn_at ?a4 ?l4 ?c4 ?k4) (K01.fn_at ?a5 ?l5 ?c5 ?k5) (K01.fn_at ?a6 ?l6 ?c6 ?k6) (K01.fn_at ?a7 ?l7 ?c7 ?k7) (K01.fn_at ?a8 ?l8 ?c8 ?k8) (K01.fn_at ?a9 ?l9 ?c9 ?k9) (K01.fn_at ?a10 ?l10 ?c10 ?k10) (K01.fn_at ?a11 ?l11 ?c11 ?k11) (K01.fn_at ?a12 ?l12 ?c12 ?k12) (K01.fn_at ?a13 ?l13 ?c13 ?k13) (K01.fn_at ?a14 ?l14 ?c14 ?k14) (K01.fn_at ?a15 ?l15 ?c15 ?k15) (K01.fn_at ?a16 ?l16 ?c16 ?k16) (K01.fn_at ?a17 ?l17 ?c17 ?k17) (K01.fn_at ?a18 ?l18 ?c18 ?k18) ?z1 ?z2 ?z3 ?z4 ?z5 ?z6 ?z7 ?z8 ?z9 ?z10 ?z11 ?z12 ?z13 ?z14 ?z15 ?z16 ?zk0 ?zk1
    (case a1 => k_is); (case l1 => k_is); (case c1 => k_is); (case k1 => k_is)
    (case a2 => k_is); (case l2 => k_is); (case c2 => k_is); (case k2 => k_is)
    (case a3 => k_is); (case l3 => k_is); (case c3 => k_is); (case k3 => k_is)
    (case a4 => k_is); (case l4 => k_is); (case c4 => k_is); (case k4 => k_is)
    (case a5 => k_is); (case l5 => k_is); (case c5 => k_is); (case k5 => k_is)
    (case a6 => k_is); (case l6 => k_is); (case c6 => k_is); (case k6 => k_is)
    (case a7 => k_is); (case l7 => k_is); (case c7 => k_is); (case k7 => k_is)
    (case a8 => k_is); (case l8 => k_is); (case c8 => k_is); (case k8 => k_is)
    (case a9 => k_is); (case l9 => k_is); (case c9 => k_is); (case k9 => k_is)
    (case a10 => k_is); (case l10 => k_is); (case c10 => k_is); (case k10 => k_is)
    (case a11 => k_is); (case l11 => k_is); (case c11 => k_is); (case k11 => k_is)
    (case a12 => k_is); (case l12 => k_is); (case c12 => k_is); (case k12 => k_is)
    (case a13 => k_is); (case l13 => k_is); (case c13 => k_is); (case k13 => k_is)
    (case a14 => k_is); (case l14 => k_is); (case c14 => k_is); (case k14 => k_is)
    (case a15 => k_is); (case l15 => k_is); (case c15 => k_is); (case k15 => k_is)
    (case a16 => k_is); (case l16 => k_is); (case c16 => k_is); (case k16 => k_is)
    (case a17 => k_is); (case l17 => k_is); (case c17 => k_is); (case k17 => k_is)
    (case a18 => k_is); (case l18 => k_is); (case c18 => k_is); (case k18 => k_is)
    (case z1 => k_is)
    (case z2 => k_is)
    (case z3 => k_is)
    (case z4 => k_is)
    (case z5 => k_is)
    (case z6 => k_is)
    (case z7 => k_is)
    (case z8 => k_is)
    (case z9 => k_is)
    (case z10 => k_is)
    (case z11 => k_is)
    (case z12 => k_is)
    (case z13 => k_is)
    (case z14 => k_is)
    (case z15 => k_is)
    (case z16 => k_is)
    (case zk0 => k_is)
    (case zk1 => k_is)
