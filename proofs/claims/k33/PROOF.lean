import PyProof.Rows.All
import Wide.All
import OpenK.AllK
import Wide.FinOn
import Lean
import PyProof.EqAt
import PyProof.EqKinds
import PyProof.TupleCall
import PyProof.NeKinds
import KE.KIntText
import PyProof.TupleOfStr
import KE.KSortTup
import PyProof.ReprRoads
import KE.KItemsList
import PyProof.Rows.Range3
import PyProof.NeData
import PyProof.P3In
import PyProof.Rows.SortRev
import PyProof.MeetsDict
import PyProof.DictKinds
import PyProof.AutoIntG2
import PySem.Challenge.RW_stairlanes_k33_whole_shares_come_to_all
set_option Elab.async false
set_option linter.all false
set_option maxRecDepth 100000
namespace L2
open PySem PySem.Spec PyProof.Rows
abbrev Key := Sum Int Str
def keyIs : Key → Value → Bool
  | .inl k, v => Value.isInt k v
  | .inr x, v => Value.isStrOf x v
def keyH (w : World) : Key → Int
  | .inl k => hashInt k
  | .inr x => hashStr w x
theorem keyIs_shape : ∀ {k : Key} {v : Value}, keyIs k v = true → (∃ i t, k = Sum.inl i ∧ v = Value.int i t) ∨ (∃ x t, k = Sum.inr x ∧ v = Value.str x t)
  | .inl i, v, h => by
    obtain ⟨t, e⟩ := Value.isInt_shape (k := i) (v := v) h
    exact .inl ⟨i, t, rfl, e⟩
  | .inr x, v, h => by
    obtain ⟨t, e⟩ := Value.isStrOf_shape (x := x) (v := v) h
    exact .inr ⟨x, t, rfl, e⟩
theorem key_ll (a b : Int) : decide ((Sum.inl a : Key) = Sum.inl b) = (a == b) := by
  by_cases e : a = b
  · subst e; simp
  · have h : ¬ (Sum.inl a : Key) = Sum.inl b := fun q => e (Sum.inl.inj q)
    rw [decide_eq_false h]
    exact (beq_eq_false_iff_ne.mpr e).symm
theorem key_rr (a b : Str) : decide ((Sum.inr a : Key) = Sum.inr b) = decide (a = b) := by
  by_cases e : a = b
  · subst e; simp
  · have h : ¬ (Sum.inr a : Key) = Sum.inr b := fun q => e (Sum.inr.inj q)
    rw [decide_eq_false h, decide_eq_false e]
theorem key_lr (a : Int) (b : Str) : decide ((Sum.inl a : Key) = Sum.inr b) = false := decide_eq_false (fun q => nomatch q)
theorem key_rl (a : Str) (b : Int) : decide ((Sum.inr a : Key) = Sum.inl b) = false := decide_eq_false (fun q => nomatch q)

def mixKind (prog : Program) (w : World) : PySem.KeyKind prog w Key where
  is := keyIs
  hash := keyH w
  inj := fun v a b ha hb => by
    rcases keyIs_shape ha with ⟨i, t, rfl, rfl⟩ | ⟨x, t, rfl, rfl⟩
    · rcases keyIs_shape hb with ⟨j, u, rfl, e⟩ | ⟨y, u, rfl, e⟩
      · injection e with e1 _; rw [e1]
      · exact nomatch e
    · rcases keyIs_shape hb with ⟨j, u, rfl, e⟩ | ⟨y, u, rfl, e⟩
      · exact nomatch e
      · injection e with e1 _; rw [e1]
  byValue := fun k v h => by
    rcases keyIs_shape h with ⟨i, t, rfl, rfl⟩ | ⟨x, t, rfl, rfl⟩ <;> rfl
  pyHash := fun hv h => by
    rcases keyIs_shape hv with ⟨i, t, rfl, rfl⟩ | ⟨x, t, rfl, rfl⟩
    · exact wpAny_pyHash_int h
    · exact wpAny_pyHash_str h
  eqBool := fun hu hv h => by
    rcases keyIs_shape hu with ⟨i, t, rfl, rfl⟩ | ⟨x, t, rfl, rfl⟩
    · rcases keyIs_shape hv with ⟨j, u, rfl, rfl⟩ | ⟨y, u, rfl, rfl⟩
      · rw [key_ll] at h; exact wpAny_eqBool_int h
      · rw [key_lr] at h; exact SeqAt.EqAt.int_str i t y u _ _ _ _ h
    · rcases keyIs_shape hv with ⟨j, u, rfl, rfl⟩ | ⟨y, u, rfl, rfl⟩
      · rw [key_rl] at h; exact SeqAt.EqAt.str_int x t j u _ _ _ _ h
      · rw [key_rr] at h; exact wpAny_eqBool_str h
  «strs» := fun k x t v h => by
    rcases keyIs_shape h with ⟨i, u, rfl, e⟩ | ⟨y, u, rfl, e⟩
    · exact nomatch e
    · injection e with e1 _
      subst e1
      cases v <;> rfl

end L2

namespace L2
open PySem PySem.Spec PyProof.Rows
inductive V where
  | non | bl (b : Bool) | int (i : Int) | str (x : Str) | byt (b : Array UInt8) | flt (b : UInt64) | ref (a : Addr) | ty (n : String)
  deriving DecidableEq

def RelV : V → Value → Prop
  | .non, u => u = Value.none
  | .bl b, u => u = Value.bool b
  | .int i, u => ∃ t, u = Value.int i t
  | .str x, u => ∃ t, u = Value.str x t
  | .byt b, u => ∃ t, u = Value.bytes b t
  | .flt b, u => ∃ t, u = Value.float b t
  | .ref a, u => u = Value.ref a
  | .ty n, u => u = Value.type n

abbrev Vals : List V → List Value → Prop := Paired RelV
theorem Vals.length {xs : List V} {us : List Value} (r : Vals xs us) : xs.length = us.length := Paired.length r
theorem Vals.get : ∀ {xs : List V} {us : List Value} {i : Nat} {x : V}, Vals xs us → xs[i]? = some x → ∃ u, us[i]? = some u ∧ RelV x u
  | _, _, _, _, .nil, e => by simp at e
  | _, _, 0, _, .cons r _, e => by simp at e; subst e; exact ⟨_, rfl, r⟩
  | _, _, i + 1, x, .cons _ t, e => by
    obtain ⟨u, h1, h2⟩ := Vals.get (i := i) (x := x) t (by simpa using e)
    exact ⟨u, by simpa using h1, h2⟩
theorem Vals.set {x : V} {u : Value} (r : RelV x u) : ∀ {xs : List V} {us : List Value} (i : Nat), Vals xs us → Vals (xs.set i x) (us.set i u)
  | _, _, _, .nil => .nil
  | _, _, 0, .cons _ t => .cons r t
  | _, _, i + 1, .cons q t => .cons q (Vals.set r i t)
theorem Vals.append : ∀ {xs ys : List V} {us ws : List Value}, Vals xs us → Vals ys ws → Vals (xs ++ ys) (us ++ ws)
  | _, _, _, _, .nil, s => s
  | _, _, _, _, .cons r t, s => .cons r (Vals.append t s)
theorem Vals.take : ∀ {xs : List V} {us : List Value} (n : Nat), Vals xs us → Vals (xs.take n) (us.take n)
  | _, _, 0, _ => .nil
  | _, _, _ + 1, .nil => .nil
  | _, _, n + 1, .cons r t => .cons r (Vals.take n t)
theorem Vals.drop : ∀ {xs : List V} {us : List Value} (n : Nat), Vals xs us → Vals (xs.drop n) (us.drop n)
  | _, _, 0, r => r
  | _, _, _ + 1, .nil => .nil
  | _, _, n + 1, .cons _ t => Vals.drop n t
def RelO : Option V → Option Value → Prop
  | some v, some u => RelV v u
  | none, none => True
  | _, _ => False
def KV {κ : Type} : List (κ × V) → List (κ × Value) → Prop := Paired fun (p : κ × V) (q : κ × Value) => p.1 = q.1 ∧ RelV p.2 q.2
def kV : Key → V
  | .inl i => .int i
  | .inr x => .str x
inductive HO where
  | lst (xs : List V)
  | tup (xs : List V)
  | dK (kvs : List (Key × V)) | dT (kvs : List (List Key × V))
  | set (S : Int → Bool) (n : Nat)
  | ins (C dx : Addr) (fs : List (Str × V))
  | own (x : Addr)
  | xd (fs : List (Str × V))
  | met (f x : Addr)
  | rng (lo hi : Int)
  | frz (o : Obj) (u : HO)
  | tbl (ps : Array Value)
  | ext (φ : Heap → Prop)

abbrev Hp := Addr → Option HO
def upd (H : Hp) (a : Addr) (o : HO) : Hp := fun b => if b = a then some o else H b
theorem upd_same {H : Hp} {a : Addr} {o : HO} : upd H a o a = some o := by unfold upd; rw [if_pos rfl]
theorem upd_ne {H : Hp} {a b : Addr} {o : HO} (h : b ≠ a) : upd H a o b = H b := by unfold upd; rw [if_neg h]
theorem ne_of_none {H : Hp} {a b : Addr} {o : HO} (h : H a = some o) (h' : H b = none) : a ≠ b := by
  intro e; subst e; rw [h] at h'; cases h'
def TupX (h : Heap) (a : Addr) (items : Array Value) : Prop := ∃ o, h.get? a = some o ∧ o.cls = .type "tuple" ∧ ∃ n, o.data = .seq items n ∧ o.dict = none
theorem TupX.tup {h : Heap} {a : Addr} {items : Array Value} (x : TupX h a items) : IsTup h a items := let ⟨o, e, c, n, d, _⟩ := x; ⟨o, e, c, n, d⟩
theorem TupX.new (h : Heap) (items : Array Value) : TupX (h.push { cls := .type "tuple", data := .seq items }) h.objs.size items := ⟨_, Heap.get?_push_size _ rfl, rfl, 0, rfl, rfl⟩
section
variable (P : Program) (w : World)
def ObjOk (H : Hp) (h : Heap) (a : Addr) : HO → Prop
  | .lst xs => xs.length ≤ sizeLine ∧ ∃ (its : List Value) (n : Nat), Vals xs its ∧ h.get? a = some { cls := .type "list", data := .seq its.toArray n }
  | .tup xs => xs.length ≤ sizeLine ∧ ∃ its : List Value, Vals xs its ∧ TupX h a its.toArray
  | .dK kvs => kvs.length ≤ sizeLine ∧ (a == sysModules) = false ∧ ∃ vs, KV kvs vs ∧ h.DictOf (mixKind P w) a vs
  | .dT kvs => kvs.length ≤ sizeLine ∧ (a == sysModules) = false ∧ ∃ xs : List (List Key × Addr × Value),
      Paired (fun (p : List Key × V) (q : List Key × Addr × Value) => p.1 = q.1 ∧ H q.2.1 = some (.tup (p.1.map kV)) ∧ RelV p.2 q.2.2) kvs xs ∧
      ∃ o es ep, h.get? a = some o ∧ o.ExactDict ∧ o.data = .dict es ep ∧ es.toList = xs.map (entryOfKey (tupleKind (mixKind P w))) ∧ (xs.map (·.1)).Nodup
  | .set S n => h.SetOf (intKind P w) a S n
  | .ins C dx fs => H dx = some (.own a) ∧ fs.length ≤ 1000 ∧ dx ≠ a ∧ h.get? a = some (PySem.W.instObj C dx) ∧
      ∃ mA, h.Ns1 dx mA ∧ (∀ f, RelO (fs.lookup f) (mA f)) ∧ PySem.Within mA (fs.map (·.1))
  | .own _ => ∃ o, h.get? a = some o
  | .xd fs => ∃ mA, h.Ns1 a mA ∧ ∀ f, RelO (fs.lookup f) (mA f)
  | .rng lo hi => ∃ t u v, h.get? a = some { cls := .type "range", data := .fields #[.int lo t, .int hi u, .int 1 v] }
  | .frz o u => h.get? a = some o ∧ ObjOk H h a u
  | .tbl ps => h.get? a = some { cls := .none, data := .fields ps }
  | .met f x => h.get? a = some (PySem.W.methodObj (.ref f) (.ref x))
  | .ext φ => φ h ∧ (∃ o, h.get? a = some o) ∧ ∀ h1 h2 : Heap, φ h1 → (∀ o, h1.get? a = some o → h2.get? a = some o) → φ h2
def HOk (H : Hp) (h : Heap) : Prop := ∀ a o, H a = some o → ObjOk P w H h a o
end

section
variable {P : Program} {w : World} {H H' : Hp} {h h' : Heap} {a : Addr} {o : HO}
theorem ObjOk.lt (x : ObjOk P w H h a o) : a < h.objs.size := by
  cases o with
  | lst xs => obtain ⟨_, _, _, _, e⟩ := x; exact Heap.lt_size e
  | tup xs => obtain ⟨_, _, _, p⟩ := x; exact p.tup.lt
  | dK kvs => obtain ⟨_, _, _, _, o, _, _, e, _⟩ := x; exact Heap.lt_size e
  | dT kvs => obtain ⟨_, _, _, _, o, _, _, e, _⟩ := x; exact Heap.lt_size e
  | set S n => obtain ⟨o, _, _, _, e, _⟩ := x; exact Heap.lt_size e
  | ins C dx fs => obtain ⟨_, _, _, e, _⟩ := x; exact Heap.lt_size e
  | own y => obtain ⟨_, e⟩ := x; exact Heap.lt_size e
  | xd fs => obtain ⟨_, ⟨_, _, _, e, _⟩, _⟩ := x; exact Heap.lt_size e
  | rng lo hi => obtain ⟨_, _, _, e⟩ := x; exact Heap.lt_size e
  | frz ob u => obtain ⟨e, _⟩ := x; exact Heap.lt_size e
  | tbl ps => exact Heap.lt_size (show h.get? a = some _ from x)
  | met f y => exact Heap.lt_size (show h.get? a = some _ from x)
  | ext φ => obtain ⟨_, ⟨_, e⟩, _⟩ := x; exact Heap.lt_size e
theorem Paired.mapP {α β : Type} {F G : α → β → Prop} : ∀ {l₁ : List α} {l₂ : List β}, Paired F l₁ l₂ → (∀ a b, F a b → G a b) → Paired G l₁ l₂
  | _, _, .nil, _ => .nil
  | _, _, .cons r t, f => .cons (f _ _ r) (Paired.mapP t f)
theorem ObjOk.stay (x : ObjOk P w H h a o) (k : ∀ b u, (b = a ∨ H b = some (.own a)) → h.get? b = some u → h'.get? b = some u)
    (ho : ∀ b, H b = some (.own a) → H' b = some (.own a)) (ht : ∀ b xs, H b = some (.tup xs) → H' b = some (.tup xs)) : ObjOk P w H' h' a o := by
  induction o with
  | lst xs => obtain ⟨z, its, n, r, e⟩ := x; exact ⟨z, its, n, r, k _ _ (.inl rfl) e⟩
  | tup xs => obtain ⟨z, its, r, ob, e, c⟩ := x; exact ⟨z, its, r, ob, k _ _ (.inl rfl) e, c⟩
  | dK kvs => obtain ⟨z, y, vs, r, ob, es, ep, e, c⟩ := x; exact ⟨z, y, vs, r, ob, es, ep, k _ _ (.inl rfl) e, c⟩
  | dT kvs =>
    obtain ⟨z, y, xs, r, ob, es, ep, e, c⟩ := x
    exact ⟨z, y, xs, Paired.mapP r fun p q z => ⟨z.1, ht _ _ z.2.1, z.2.2⟩, ob, es, ep, k _ _ (.inl rfl) e, c⟩
  | set S n => obtain ⟨ob, es, ep, t, e, c⟩ := x; exact ⟨ob, es, ep, t, k _ _ (.inl rfl) e, c⟩
  | ins C dx fs =>
    obtain ⟨d, z, ne, e, mA, ⟨od, es, ep, e2, c⟩, r⟩ := x
    exact ⟨ho _ d, z, ne, k _ _ (.inl rfl) e, mA, ⟨od, es, ep, k _ _ (.inr d) e2, c⟩, r⟩
  | own y => obtain ⟨ob, e⟩ := x; exact ⟨ob, k _ _ (.inl rfl) e⟩
  | xd fs => obtain ⟨mA, ⟨od, es, ep, e, c⟩, r⟩ := x; exact ⟨mA, ⟨od, es, ep, k _ _ (.inl rfl) e, c⟩, r⟩
  | rng lo hi => obtain ⟨t, u, v, e⟩ := x; exact ⟨t, u, v, k _ _ (.inl rfl) e⟩
  | frz ob u ih => obtain ⟨e, q⟩ := x; exact ⟨k _ _ (.inl rfl) e, ih q⟩
  | tbl ps =>
    have e : h.get? a = some { cls := .none, data := .fields ps } := x
    show h'.get? a = some { cls := .none, data := .fields ps }
    exact k a _ (.inl rfl) e
  | met f y =>
    have e : h.get? a = some (PySem.W.methodObj (.ref f) (.ref y)) := x
    show h'.get? a = some (PySem.W.methodObj (.ref f) (.ref y))
    exact k a _ (.inl rfl) e
  | ext φ => obtain ⟨p, ⟨o, e⟩, st⟩ := x; exact ⟨st _ _ p fun o q => k _ _ (.inl rfl) q, ⟨o, k _ _ (.inl rfl) e⟩, st⟩
theorem HOk.lt (x : HOk P w H h) (e : H a = some o) : a < h.objs.size := (x a o e).lt
theorem HOk.fresh (x : HOk P w H h) (e : h.objs.size ≤ a) : H a = none := by
  cases q : H a with
  | none => rfl
  | some u => exact absurd (Nat.lt_of_lt_of_le (x.lt q) e) (Nat.lt_irrefl _)
theorem HOk.kept (x : HOk P w H h) (k : ∀ b u, h.get? b = some u → h'.get? b = some u) : HOk P w H h' := fun a o e =>
  (x a o e).stay (fun b u _ q => k b u q) (fun _ q => q) fun _ _ q => q
theorem HOk.laid (x : HOk P w H h) (k : ∀ b u, h.get? b = some u → h'.get? b = some u) (hp : h.objs.size ≤ a) (new : ObjOk P w (upd H a o) h' a o) : HOk P w (upd H a o) h' := fun b u e => by
  have hn := x.fresh hp
  by_cases hb : b = a
  · subst hb; rw [upd_same] at e; cases e; exact new
  · rw [upd_ne hb] at e
    exact (x b u e).stay (fun c v _ q => k c v q) (fun c q => by rw [upd_ne (ne_of_none q hn)]; exact q) fun c xs q => by rw [upd_ne (ne_of_none q hn)]; exact q
end
def Rd (H : Hp) (a : Addr) (u : HO) : Prop := H a = some u ∨ ∃ o, H a = some (.frz o u)
theorem Rd.ok {P : Program} {w : World} {H : Hp} {h : Heap} {a : Addr} {u : HO} (r : Rd H a u) (x : HOk P w H h) : ObjOk P w H h a u := by
  rcases r with r | ⟨o, r⟩
  · exact x a u r
  · obtain ⟨_, q⟩ := x a _ r
    exact q
def Mut : Option HO → Prop
  | some (.lst _) => True
  | some (.dK _) => True
  | some (.dT _) => True
  | some (.set _ _) => True
  | some (.ins _ _ _) => True
  | some (.ext _) => True
  | _ => False
section
variable {P : Program} {w : World} {H : Hp} {h h' : Heap} {x e : Addr} {o' : HO}
theorem HOk.write (ok : HOk P w H h) (mu : Mut (H x)) (he : e = x ∨ H e = some (.own x)) (k : ∀ b u, b ≠ e → h.get? b = some u → h'.get? b = some u) (heo : ∃ u, h'.get? e = some u)
    (new : ObjOk P w (upd H x o') h' x o') : HOk P w (upd H x o') h' := fun b u q => by
  have nown : ∀ c y, H c = some (.own y) → c ≠ x := fun c y r z => by subst z; rw [r] at mu; exact mu
  have ntup : ∀ c xs, H c = some (.tup xs) → c ≠ x := fun c xs r z => by subst z; rw [r] at mu; exact mu
  by_cases hb : b = x
  · subst hb; rw [upd_same] at q; cases q; exact new
  · rw [upd_ne hb] at q
    by_cases hbe : b = e
    · have q' : H b = some (.own x) := by
        rcases he with z | z
        · exact absurd (hbe.trans z) hb
        · rw [hbe]; exact z
      rw [q] at q'; cases q'
      obtain ⟨v, hv⟩ := heo
      exact ⟨v, by rw [hbe]; exact hv⟩
    · refine (ok b u q).stay (fun c v hc r => k c v ?_ r) (fun c r => by rw [upd_ne (nown c b r)]; exact r) fun c xs r => by rw [upd_ne (ntup c xs r)]; exact r
      rcases hc with rfl | hc
      · exact hbe
      · rintro rfl
        rcases he with z | z
        · exact nown c b hc z
        · rw [hc] at z; cases z; exact hb rfl
end
structure Un (fs ex : List Addr) (H H' : Hp) (h h' : Heap) : Prop where
  keep : ∀ b o, h.get? b = some o → H b = none → b ∉ fs → b ∉ ex → h'.get? b = some o
  slot : ∀ b o, h.get? b = some o → H b = none → b ∈ fs → b ∉ ex → ∃ sl, h'.get? b = some { o with slots := sl }
  free : ∀ b o, h.get? b = some o → H b = none → b ∉ ex → H' b = none
  there : ∀ b o, h.get? b = some o → b ∉ ex → ∃ o', h'.get? b = some o'
  tups : ∀ b xs, H b = some (.tup xs) → H' b = some (.tup xs)
  frzs : ∀ b o u, H b = some (.frz o u) → H' b = some (.frz o u)
  tbls : ∀ b ps, H b = some (.tbl ps) → ∃ more, H' b = some (.tbl (ps ++ more))
section
variable {fs fs' ex ex' : List Addr} {H H1 H2 : Hp} {h h1 h2 h' : Heap} {a x e : Addr} {o : HO}
theorem Un.any (u : Un fs ex H H1 h h1) {b : Addr} {ob : Obj} (q : h.get? b = some ob) (n : H b = none) (hx : b ∉ ex) : ∃ sl, h1.get? b = some { ob with slots := sl } := by
  by_cases hb : b ∈ fs
  · exact u.slot b ob q n hb hx
  · exact ⟨ob.slots, u.keep b ob q n hb hx⟩
theorem Un.kept (k : ∀ b u, h.get? b = some u → h'.get? b = some u) : Un fs ex H H h h' :=
  ⟨fun b ob q _ _ _ => k b ob q, fun b ob q _ _ _ => ⟨ob.slots, k b ob q⟩, fun _ _ _ n _ => n, fun b ob q _ => ⟨ob, k b ob q⟩, fun _ _ q => q, fun _ _ _ q => q, fun _ ps q => ⟨#[], by rw [q]; simp⟩⟩
theorem Un.refl : Un fs ex H H h h := Un.kept fun _ _ q => q
theorem Un.laid (k : ∀ b u, h.get? b = some u → h'.get? b = some u) (hp : h.objs.size ≤ a) (hn : H a = none) : Un fs ex H (upd H a o) h h' where
  keep := fun b u q _ _ _ => k b u q
  slot := fun b u q _ _ _ => ⟨u.slots, k b u q⟩
  free := fun b u q n _ => by rw [upd_ne (Nat.ne_of_lt (Nat.lt_of_lt_of_le (Heap.lt_size q) hp))]; exact n
  there := fun b u q _ => ⟨u, k b u q⟩
  tups := fun b xs q => by rw [upd_ne (ne_of_none q hn)]; exact q
  frzs := fun b u xs q => by rw [upd_ne (ne_of_none q hn)]; exact q
  tbls := fun b ps q => ⟨#[], by rw [upd_ne (ne_of_none q hn), q]; simp⟩
theorem Un.write (mu : Mut (H x)) (he : e = x ∨ H e = some (.own x)) (k : ∀ b u, b ≠ e → h.get? b = some u → h'.get? b = some u) (heo : ∃ u, h'.get? e = some u) : Un fs ex H (upd H x o) h h' := by
  have hx : ∀ b, H b = none → b ≠ x := fun b n z => by subst z; rw [n] at mu; exact mu
  have hb : ∀ b, H b = none → b ≠ e := fun b n z => by
    subst z
    rcases he with r | r
    · exact hx b n r
    · rw [n] at r; cases r
  have hm : ∀ b u, H b = some u → ¬ Mut (some u) → b ≠ x := fun b u q nm z => by subst z; rw [q] at mu; exact nm mu
  refine ⟨fun b u q n _ _ => k b u (hb b n) q, fun b u q n _ _ => ⟨u.slots, k b u (hb b n) q⟩, fun b u q n _ => by rw [upd_ne (hx b n)]; exact n, fun b u q _ => ?_,
    fun b xs q => by rw [upd_ne (hm b _ q fun z => z)]; exact q, fun b u xs q => by rw [upd_ne (hm b _ q fun z => z)]; exact q, fun b ps q => ⟨#[], by rw [upd_ne (hm b _ q fun z => z), q]; simp⟩⟩
  by_cases hbe : b = e
  · subst hbe; exact heo
  · exact ⟨u, k b u hbe q⟩
end
def trk (h : Heap) (H : Hp) : List Addr := (List.range h.objs.size).filter fun a => (H a).isSome
def hidT (h : Heap) (H : Hp) : Heap := PySem.W.hideAll h (trk h H)
theorem hidT_size (h : Heap) (H : Hp) : (hidT h H).objs.size = h.objs.size := PySem.W.hideAll_size _ _
theorem hidT_get {h : Heap} {H : Hp} {b : Addr} {o : Obj} (e : h.get? b = some o) (n : H b = none) : (hidT h H).get? b = some o :=
  PySem.W.hideAll_get _ e fun hm => by
    have q : (H b).isSome = true := (List.mem_filter.mp hm).2
    rw [n] at q; simp at q
theorem of_hidT {h : Heap} {H : Hp} {b : Addr} {o : Obj} (e : (hidT h H).get? b = some o) : h.get? b = some o ∧ H b = none := by
  have e' : h.get? b = some o := PySem.W.of_hideAll (trk h H) e
  refine ⟨e', ?_⟩
  cases q : H b with
  | none => rfl
  | some x =>
    have hm : b ∈ trk h H := List.mem_filter.mpr ⟨List.mem_range.mpr (Heap.lt_size e'), by simp [q]⟩
    have z : (hidT h H).get? b = none := PySem.W.hideAll_none (trk h H) hm
    rw [z] at e; cases e
def allNews (g h : Heap) (L : Addr) : List (Addr × Obj) := (List.range h.objs.size).filterMap fun a => if a = L ∨ (g.get? a).isSome = true then none else (h.get? a).map fun o => (a, o)
def rest (g h : Heap) (L d : Addr) : List (Addr × Obj) := (allNews g h L).filter fun p => decide (p.1 ≠ d)
end L2

namespace L2
open PySem PySem.Spec PyProof.Rows
structure Mod (K : PySem.W.Frag) (mg : Str → Option Value) (base : Heap) : Prop where
  kin : K.In base
  glob : base.Ns mainGlobals mg
  blt : ∃ mb, base.Ns builtinsNs mb ∧ ∀ x : Str, x ≠ "__name__" → mb x = bootBuiltins x
  nolimit : base.NoLimit

/-- the context: a def's body (or a comprehension's block) running. base: fixed through the whole law; s₀, H₀: the entry; outer: the frames whose slots others may change (a def's callers); stack: all frames that run;
   ex: iterators that were made ahead of the entry and are walked here (a comprehension's); fn: the names whose cells were made at the entry (a def: all; a comprehension's block: its own); calm: not within an except suite; pn: pins that every state bears; xe: what is wanted of an exception that leaves the code -/
structure Cx where
  prog : Program
  w : World
  K : PySem.W.Frag
  mg : Str → Option Value
  base : Heap
  A : Around
  N : List Str
  s₀ : Shared
  H₀ : Hp
  env : Env
  outer : List Env
  stack : List Env
  ex : List Addr
  fn : Str → Bool
  calm : Bool
  pn : List (Addr × Obj)
  xe : Value → Shared → Prop
def frs (l : List Env) : List Addr := l.filterMap (·.frame)
abbrev Cx.fs (X : Cx) : List Addr := frs X.outer

def Vis (sc : Scope) (x : Str) : Prop := sc.names.lookup x = some .local ∨ sc.names.lookup x = some .cell ∨ sc.names.lookup x = some .free
def Loc (sc : Scope) (x : Str) : Prop := sc.names.lookup x = some .local ∨ sc.names.lookup x = some .cell
def Look (env : Env) (h : Heap) (m : Str → Option Value) (x : Str) (u : Value) : Prop :=
  (env.kindOf x = some .local ∧ m x = some u) ∨ ((env.kindOf x = some .cell ∨ env.kindOf x = some .free) ∧ ∃ c, env.cells.lookup x = some c ∧ h.IsCell c (some u))

structure Cx.Ok (X : Cx) : Prop where
  mod : Mod X.K X.mg X.base
  kind : X.env.scope.kind = .function
  glob : X.env.globals = mainGlobals
  blt : X.env.builtins = builtinsNs
  above : X.s₀.heap.objs.size ≤ X.env.locals
  inj : ∀ x y c, X.env.cells.lookup x = some c → X.env.cells.lookup y = some c → x = y
  has : ∀ x, (X.env.kindOf x = some .cell ∨ X.env.kindOf x = some .free) → ∃ c, X.env.cells.lookup x = some c
  cab : ∀ x c, X.fn x = true → X.env.cells.lookup x = some c → X.s₀.heap.objs.size ≤ c
  hd : X.calm = true → X.A.handled = none
  frames : X.A.frames = some X.stack
  stk : X.stack = X.outer ∨ (X.stack = X.env :: X.outer ∧ X.env.frame = some X.env.locals)
  exf : ∀ b ∈ X.ex, b ≠ X.env.locals ∧ ∀ x c, X.env.cells.lookup x = some c → c ≠ b
  bs : ∀ b o, X.base.get? b = some o → X.s₀.heap.get? b = some o ∧ X.H₀ b = none
  bsz : X.base.objs.size ≤ X.s₀.heap.objs.size
  noex : ∀ b o, X.base.get? b = some o → b ∉ X.ex
  exfs : ∀ b ∈ X.ex, b ∉ X.fs
  funs : X.s₀.heap.FunFrames X.base X.outer
  frf : ∀ b ∈ X.fs, X.H₀ b = none

structure Inv (X : Cx) (pins : List (Addr × Obj)) (σ : List (Option V)) (H : Hp) (s : Shared) : Prop where
  ok : X.Ok
  os : s.os = X.s₀.os
  bare : AllBare s.gens
  base : Un X.fs X.ex X.H₀ H X.s₀.heap s.heap
  loc : ∃ m, s.heap.Ns X.env.locals m ∧ ∀ (i : Nat) (x : Str) (v : V), X.N[i]? = some x → σ[i]? = some (some v) → Vis X.env.scope x → ∃ u, RelV v u ∧ Look X.env s.heap m x u
  cell : ∀ x c, X.env.cells.lookup x = some c → ∃ v, s.heap.IsCell c v
  free : H X.env.locals = none
  freeC : ∀ x c, X.env.cells.lookup x = some c → H c = none
  pin : ∀ p ∈ X.pn ++ pins, s.heap.get? p.1 = some p.2 ∧ H p.1 = none ∧ p.1 ≠ X.env.locals ∧ p.1 ∉ X.fs ∧ ∀ v, p.2.data ≠ .cell v
  hok : HOk X.prog X.w H s.heap
  len : σ.length = X.N.length

section
variable {X : Cx} {pins : List (Addr × Obj)} {σ : List (Option V)} {H H' : Hp} {s : Shared} {h' : Heap}

theorem Cx.Ok.nofr (ok : X.Ok) {b : Addr} {o : Obj} (e : X.base.get? b = some o) : b ∉ X.fs := fun hb => by
  have := (ok.funs.mem hb).1
  rw [e] at this; cases this
theorem Inv.bs (I : Inv X pins σ H s) : ∀ b o, X.base.get? b = some o → s.heap.get? b = some o ∧ H b = none := fun b o e =>
  ⟨I.base.keep b o (I.ok.bs b o e).1 (I.ok.bs b o e).2 (I.ok.nofr e) (I.ok.noex b o e), I.base.free b o (I.ok.bs b o e).1 (I.ok.bs b o e).2 (I.ok.noex b o e)⟩
theorem Inv.bk (I : Inv X pins σ H s) : ∀ b o, X.base.get? b = some o → s.heap.get? b = some o := fun b o e => (I.bs b o e).1
theorem Inv.mod (I : Inv X pins σ H s) : Mod X.K X.mg X.base := I.ok.mod
theorem Inv.kIn (I : Inv X pins σ H s) : X.K.In s.heap := I.ok.mod.kin.keeps I.bk
theorem Inv.lt (I : Inv X pins σ H s) : X.env.locals < s.heap.objs.size := let ⟨_, hn, _⟩ := I.loc; hn.lt
theorem Inv.sz (I : Inv X pins σ H s) : X.s₀.heap.objs.size ≤ s.heap.objs.size := Nat.le_trans I.ok.above (Nat.le_of_lt I.lt)
theorem Inv.nofs (I : Inv X pins σ H s) {a : Addr} (h : s.heap.objs.size ≤ a) : a ∉ X.fs := fun hb => by
  obtain ⟨_, o, ho, _⟩ := I.ok.funs.mem hb
  exact absurd (Nat.lt_of_lt_of_le (Heap.lt_size ho) (Nat.le_trans I.sz h)) (Nat.lt_irrefl _)
theorem Inv.cne (I : Inv X pins σ H s) : ∀ x c, X.env.cells.lookup x = some c → c ≠ X.env.locals := fun x c e z => by
  obtain ⟨v, o, ho, hd⟩ := I.cell x c e
  obtain ⟨m, ⟨o', es, ep, ho', hd', _⟩, _⟩ := I.loc
  rw [z, ho'] at ho; cases ho; rw [hd'] at hd; cases hd
theorem Inv.funs (I : Inv X pins σ H s) : s.heap.FunFrames X.base X.outer := by
  have all : ∀ (l : List Env), (∀ b ∈ frs l, b ∈ X.fs) → X.s₀.heap.FunFrames X.base l → s.heap.FunFrames X.base l := by
    intro l
    induction l with
    | nil => intro _ _; trivial
    | cons env r ih =>
      intro hs hl
      obtain ⟨hk, ⟨L, o, hf, hn, ho, hd⟩, hr⟩ := hl
      have hL : L ∈ X.fs := hs L (by unfold frs; rw [List.filterMap_cons, hf]; exact List.mem_cons_self)
      obtain ⟨sl, e⟩ := I.base.slot L o ho (I.ok.frf L hL) hL fun z => I.ok.exfs L z hL
      exact ⟨hk, ⟨L, _, hf, hn, e, hd⟩, ih (fun b hb => hs b (by unfold frs; rw [List.filterMap_cons, hf]; exact List.mem_cons_of_mem _ hb)) hr⟩
  exact all X.outer (fun _ hb => hb) I.ok.funs
theorem Inv.stack (I : Inv X pins σ H s) : s.heap.FunFrames X.base X.stack := by
  rcases I.ok.stk with e | ⟨e, hf⟩
  · rw [e]; exact I.funs
  · rw [e]
    obtain ⟨m, hn, _⟩ := I.loc
    refine .cons (by rw [I.ok.kind]; decide) hf hn ?_ I.funs
    exact Heap.get?_none_of_le (Nat.le_trans I.ok.bsz I.ok.above)
theorem Inv.stkSub (I : Inv X pins σ H s) : ∀ b ∈ frs X.stack, b ∈ X.env.locals :: X.fs := fun b hb => by
  rcases I.ok.stk with e | ⟨e, hf⟩
  · rw [e] at hb; exact List.mem_cons_of_mem _ hb
  · rw [e] at hb
    unfold frs at hb
    rw [List.filterMap_cons, hf] at hb
    exact hb
theorem Inv.stkFree (I : Inv X pins σ H s) : ∀ b ∈ frs X.stack, H b = none := fun b hb => by
  rcases List.mem_cons.mp (I.stkSub b hb) with e | hb
  · rw [e]; exact I.free
  · obtain ⟨_, o, ho, _⟩ := I.ok.funs.mem hb
    exact I.base.free b o ho (I.ok.frf b hb) fun z => I.ok.exfs b z hb
theorem Inv.step {g' : Array GenState} {t' : Nat} {d' : Drawn} {ch : List Addr} (I : Inv X pins σ H s)
    (hch : ∀ b ∈ ch, (b ∈ X.ex ∨ X.s₀.heap.objs.size ≤ b) ∧ b ≠ X.env.locals ∧ (∀ x c, X.env.cells.lookup x = some c → c ≠ b) ∧ ∀ p ∈ X.pn ++ pins, p.1 ≠ b)
    (keep : ∀ b o, b ≠ X.env.locals → b ∉ X.fs → b ∉ ch → s.heap.get? b = some o → H b = none → h'.get? b = some o)
    (slot : ∀ b o, b ≠ X.env.locals → b ∈ X.fs → b ∉ ch → s.heap.get? b = some o → H b = none → ∃ sl, h'.get? b = some { o with slots := sl }) (free : ∀ b o, b ∉ ch → s.heap.get? b = some o → H b = none → H' b = none)
    (there : ∀ b o, b ∉ ch → s.heap.get? b = some o → ∃ o', h'.get? b = some o')
    (tups : ∀ b xs, H b = some (.tup xs) → H' b = some (.tup xs)) (frzs : ∀ b o u, H b = some (.frz o u) → H' b = some (.frz o u)) (tbls : ∀ b ps, H b = some (.tbl ps) → ∃ more, H' b = some (.tbl (ps ++ more)))
    (ns : ∀ m, s.heap.Ns X.env.locals m → h'.Ns X.env.locals m) (hok : HOk X.prog X.w H' h') (hg : AllBare g') :
    Inv X pins σ H' { s with heap := h', gens := g', drawn := d', toks := t' } := by
  have neL : ∀ b o, X.s₀.heap.get? b = some o → b ≠ X.env.locals := fun b o e => Nat.ne_of_lt (Nat.lt_of_lt_of_le (Heap.lt_size e) I.ok.above)
  have neC : ∀ b o, X.s₀.heap.get? b = some o → b ∉ X.ex → b ∉ ch := fun b o e hx hb => by
    rcases (hch b hb).1 with z | z
    · exact hx z
    · exact absurd (Nat.lt_of_lt_of_le (Heap.lt_size e) z) (Nat.lt_irrefl _)
  have cellK : ∀ x c, X.env.cells.lookup x = some c → ∀ v, s.heap.IsCell c v → h'.IsCell c v := fun x c e v ⟨o, ho, hd⟩ => by
    have nch : c ∉ ch := fun z => (hch c z).2.2.1 x c e rfl
    by_cases hc : c ∈ X.fs
    · obtain ⟨sl, q⟩ := slot c o (I.cne x c e) hc nch ho (I.freeC x c e)
      exact ⟨_, q, hd⟩
    · exact ⟨o, keep c o (I.cne x c e) hc nch ho (I.freeC x c e), hd⟩
  refine ⟨I.ok, I.os, hg, ⟨fun b o e n hb hx => ?_, fun b o e n hb hx => ?_, fun b o e n hx => ?_, fun b o e hx => ?_, fun b xs e => tups b xs (I.base.tups b xs e), fun b o xs e => frzs b o xs (I.base.frzs b o xs e), fun b ps e => ?_⟩, ?_, fun x c e => ?_, ?_, fun x c e => ?_, fun p hp => ?_, hok, I.len⟩
  · exact keep b o (neL b o e) hb (neC b o e hx) (I.base.keep b o e n hb hx) (I.base.free b o e n hx)
  · obtain ⟨sl, e1⟩ := I.base.slot b o e n hb hx
    obtain ⟨sl', e2⟩ := slot b _ (neL b o e) hb (neC b o e hx) e1 (I.base.free b o e n hx)
    exact ⟨sl', e2⟩
  · obtain ⟨o', e1⟩ := I.base.there b o e hx
    exact free b o' (neC b o e hx) e1 (I.base.free b o e n hx)
  · obtain ⟨o', e1⟩ := I.base.there b o e hx
    exact there b o' (neC b o e hx) e1
  · obtain ⟨m1, e1⟩ := I.base.tbls b ps e
    obtain ⟨m2, e2⟩ := tbls b _ e1
    exact ⟨m1 ++ m2, by rw [e2, Array.append_assoc]⟩
  · obtain ⟨m, hn, hl⟩ := I.loc
    refine ⟨m, ns m hn, fun i x v e1 e2 e3 => ?_⟩
    obtain ⟨u, r, l⟩ := hl i x v e1 e2 e3
    refine ⟨u, r, ?_⟩
    rcases l with l | ⟨k, c, e, z⟩
    · exact .inl l
    · exact .inr ⟨k, c, e, cellK x c e _ z⟩
  · obtain ⟨v, z⟩ := I.cell x c e
    exact ⟨v, cellK x c e v z⟩
  · obtain ⟨m, ⟨o, _, _, ho, _⟩, _⟩ := I.loc
    exact free _ o (fun z => (hch _ z).2.1 rfl) ho I.free
  · obtain ⟨v, o, ho, hd⟩ := I.cell x c e
    exact free c o (fun z => (hch c z).2.2.1 x c e rfl) ho (I.freeC x c e)
  · obtain ⟨e, n, ne, nf, d⟩ := I.pin p hp
    have nch : p.1 ∉ ch := fun z => (hch p.1 z).2.2.2 p hp rfl
    exact ⟨keep p.1 p.2 ne nf nch e n, free p.1 p.2 nch e n, ne, nf, d⟩
theorem Inv.un {t' : Nat} (I : Inv X pins σ H s) (u : Un X.fs [] H H' s.heap h') (hok : HOk X.prog X.w H' h') : Inv X pins σ H' { s with heap := h', toks := t' } := by
  obtain ⟨m, ⟨o, es, ep, ho, r⟩, _⟩ := id I.loc
  obtain ⟨sl, hL⟩ := u.any ho I.free (by simp)
  exact I.step (g' := s.gens) (d' := s.drawn) (ch := []) (fun _ z => nomatch z) (fun b o _ hb _ e n => u.keep b o e n hb (by simp)) (fun b o _ hb _ e n => u.slot b o e n hb (by simp)) (fun b o _ e n => u.free b o e n (by simp)) (fun b o _ e => u.there b o e (by simp)) u.tups u.frzs u.tbls (fun m' hm => by
    obtain ⟨o', es', ep', ho', r'⟩ := hm
    rw [ho] at ho'; cases ho'
    exact ⟨_, es', ep', hL, r'⟩) hok I.bare
theorem Inv.call {g' : Array GenState} {t' : Nat} {d' : Drawn} {ch : List Addr} (I : Inv X pins σ H s) (u : Un (frs X.stack) ch H H' s.heap h') (hok : HOk X.prog X.w H' h') (hg : AllBare g')
    (hch : ∀ b ∈ ch, (b ∈ X.ex ∨ X.s₀.heap.objs.size ≤ b) ∧ b ≠ X.env.locals ∧ (∀ x c, X.env.cells.lookup x = some c → c ≠ b) ∧ ∀ p ∈ X.pn ++ pins, p.1 ≠ b) :
    Inv X pins σ H' { s with heap := h', gens := g', drawn := d', toks := t' } := by
  obtain ⟨m, ⟨o, es, ep, ho, r⟩, _⟩ := id I.loc
  obtain ⟨sl, hL⟩ := u.any ho I.free fun z => (hch _ z).2.1 rfl
  exact I.step (ch := ch) hch (fun b o hL hb hc e n => u.keep b o e n (fun z => (List.mem_cons.mp (I.stkSub b z)).elim hL hb) hc) (fun b o _ _ hc e n => u.any e n hc) (fun b o hc e n => u.free b o e n hc) (fun b o hc e => u.there b o e hc) u.tups u.frzs u.tbls (fun m' hm => by
    obtain ⟨o', es', ep', ho', r'⟩ := hm
    rw [ho] at ho'; cases ho'
    exact ⟨_, es', ep', hL, r'⟩) hok hg
theorem Inv.turned {t' : Nat} {it : Addr} (I : Inv X pins σ H s) (k : ∀ b o, b ≠ it → s.heap.get? b = some o → h'.get? b = some o) (hn : H it = none) (hL : it ≠ X.env.locals)
    (h1 : it ∈ X.ex ∨ X.s₀.heap.objs.size ≤ it) (h2 : ∀ x c, X.env.cells.lookup x = some c → c ≠ it) (h3 : ∀ p ∈ X.pn ++ pins, p.1 ≠ it) : Inv X pins σ H { s with heap := h', toks := t' } := by
  have nit : ∀ b u, H b = some u → b ≠ it := fun b u e z => by rw [z, hn] at e; cases e
  refine I.step (g' := s.gens) (d' := s.drawn) (ch := [it]) (fun b hb => ?_) (fun b o _ _ hc e _ => k b o (fun z => hc (by simp [z])) e) (fun b o _ _ hc e _ => ⟨o.slots, k b o (fun z => hc (by simp [z])) e⟩) (fun _ _ _ _ n => n)
    (fun b o hc e => ⟨o, k b o (fun z => hc (by simp [z])) e⟩) (fun _ _ e => e) (fun _ _ _ e => e) (fun b ps e => ⟨#[], by rw [e]; simp⟩) (fun m hm => ?_) (fun b u e => ?_) I.bare
  · have e : b = it := by simpa using hb
    subst e
    exact ⟨h1, hL, h2, h3⟩
  · obtain ⟨o, es, ep, ho, r⟩ := hm
    exact ⟨o, es, ep, k _ o (Ne.symm hL) ho, r⟩
  · refine (I.hok b u e).stay (fun c v hc q => k c v ?_ q) (fun _ q => q) fun _ _ q => q
    rcases hc with z | z
    · rw [z]; exact nit b u e
    · exact nit c _ z
theorem Inv.tok (I : Inv X pins σ H s) (t : Nat) : Inv X pins σ H { s with toks := t } := I.un (h' := s.heap) (t' := t) Un.refl I.hok
theorem Inv.kept {t' : Nat} (I : Inv X pins σ H s) (k : ∀ b u, s.heap.get? b = some u → h'.get? b = some u) : Inv X pins σ H { s with heap := h', toks := t' } := I.un (Un.kept k) (I.hok.kept k)
theorem Inv.laid {a : Addr} {o : HO} {t' : Nat} (I : Inv X pins σ H s) (k : ∀ b u, s.heap.get? b = some u → h'.get? b = some u) (hp : s.heap.objs.size ≤ a) (new : ObjOk X.prog X.w (upd H a o) h' a o) :
    Inv X pins σ (upd H a o) { s with heap := h', toks := t' } := I.un (Un.laid k hp (I.hok.fresh hp)) (I.hok.laid k hp new)
theorem Inv.write {x e : Addr} {o : HO} {t' : Nat} (I : Inv X pins σ H s) (mu : Mut (H x)) (he : e = x ∨ H e = some (.own x)) (k : ∀ b u, b ≠ e → s.heap.get? b = some u → h'.get? b = some u) (heo : ∃ u, h'.get? e = some u)
    (new : ObjOk X.prog X.w (upd H x o) h' x o) : Inv X pins σ (upd H x o) { s with heap := h', toks := t' } := I.un (Un.write mu he k heo) (I.hok.write mu he k heo new)
theorem Inv.pins_of {pins' : List (Addr × Obj)} (I : Inv X pins σ H s) (h : ∀ p ∈ pins', s.heap.get? p.1 = some p.2 ∧ H p.1 = none ∧ p.1 ≠ X.env.locals ∧ p.1 ∉ X.fs ∧ ∀ v, p.2.data ≠ .cell v) : Inv X pins' σ H s :=
  ⟨I.ok, I.os, I.bare, I.base, I.loc, I.cell, I.free, I.freeC, fun p hp => (List.mem_append.mp hp).elim (fun z => I.pin p (List.mem_append_left _ z)) (h p), I.hok, I.len⟩

theorem nodup_ix {N : List Str} (hN : N.Nodup) {i j : Nat} {x : Str} (a : N[i]? = some x) (b : N[j]? = some x) : i = j := by
  obtain ⟨h1, e1⟩ := List.getElem?_eq_some_iff.mp a
  obtain ⟨h2, e2⟩ := List.getElem?_eq_some_iff.mp b
  exact (List.getElem_inj hN).mp (e1.trans e2.symm)
theorem store_ok2 {M : Model} {A : Around} {E : Value → Shared → Prop} {i : Nat} {x : Str} {v : V} {u : Value} {Q : Unit → Shared → Prop} (I : Inv X pins σ H s) (hN : X.N.Nodup) (hi : X.N[i]? = some x) (hx : Loc X.env.scope x) (r : RelV v u)
    (h : ∀ s', Inv X pins (σ.set i (some v)) H s' → (∃ a, Heap.SameBut a s.heap s'.heap ∧ (a = X.env.locals ∨ X.env.cells.lookup x = some a)) → Q () s') (hf : X.fn x = true ∨ X.env.scope.names.lookup x = some .local := by first | exact .inl rfl | exact .inr rfl | assumption) : wpAny M A (storeName X.env x u) Q E s := by
  obtain ⟨m, hn, hl⟩ := id I.loc
  have hcls : (X.env.scope.kind == .class || (X.env.scope.kind == .module && X.env.locals != X.env.globals)) = false := by rw [I.ok.kind]; rfl
  have hiσ : i < σ.length := by rw [I.len]; exact (List.getElem?_eq_some_iff.mp hi).1
  have cne := I.cne
  have tracked : ∀ {a : Addr} {h' : Heap}, (∃ o, s.heap.get? a = some o ∧ H a = none) → Heap.SameBut a s.heap h' → HOk X.prog X.w H h' := fun {a h'} ha hs b ob e => by
    obtain ⟨_, _, hfree⟩ := ha
    refine (I.hok b ob e).stay (fun c w' hc q => (hs.2 c ?_).trans q) (fun _ q => q) fun _ _ q => q
    rintro rfl
    rcases hc with rfl | hc
    · rw [hfree] at e; cases e
    · rw [hfree] at hc; cases hc
  rcases hx with hk | hk
  · refine wpAny_storeName_local hk hn (fun h' hn' hs => ?_) hcls
    obtain ⟨oL, _, _, hoL, _⟩ := id hn
    refine h _ ⟨I.ok, I.os, I.bare, ⟨fun b o e n hb hx => ?_, fun b o e n hb hx => ?_, I.base.free, fun b o e hx => ?_, I.base.tups, I.base.frzs, I.base.tbls⟩, ⟨_, hn', fun j y v' e1 e2 e3 => ?_⟩, fun y c e => ?_, I.free, I.freeC, fun p hp => ?_, tracked ⟨oL, hoL, I.free⟩ hs, by simpa using I.len⟩ ⟨_, hs, .inl rfl⟩
    · exact (hs.2 b (Nat.ne_of_lt (Nat.lt_of_lt_of_le (Heap.lt_size e) I.ok.above))).trans (I.base.keep b o e n hb hx)
    · obtain ⟨sl, e1⟩ := I.base.slot b o e n hb hx
      exact ⟨sl, (hs.2 b (Nat.ne_of_lt (Nat.lt_of_lt_of_le (Heap.lt_size e) I.ok.above))).trans e1⟩
    · obtain ⟨o', e1⟩ := I.base.there b o e hx
      exact ⟨o', (hs.2 b (Nat.ne_of_lt (Nat.lt_of_lt_of_le (Heap.lt_size e) I.ok.above))).trans e1⟩
    · by_cases hj : j = i
      · subst hj
        rw [hi] at e1; cases e1
        rw [List.getElem?_set_self hiσ] at e2
        cases e2
        exact ⟨u, r, .inl ⟨hk, by simp⟩⟩
      · rw [List.getElem?_set_ne (Ne.symm hj)] at e2
        obtain ⟨u', r', q⟩ := hl j y v' e1 e2 e3
        refine ⟨u', r', ?_⟩
        rcases q with ⟨k, e⟩ | ⟨k, c, e, z⟩
        · refine .inl ⟨k, ?_⟩
          have : y ≠ x := fun e => hj (nodup_ix hN e1 (e ▸ hi))
          simp [this, e]
        · exact .inr ⟨k, c, e, z.sameBut hs (cne y c e)⟩
    · obtain ⟨w', z⟩ := I.cell y c e
      exact ⟨w', z.sameBut hs (cne y c e)⟩
    · obtain ⟨e, n, ne, nf, d⟩ := I.pin p hp
      exact ⟨(hs.2 p.1 ne).trans e, n, ne, nf, d⟩
  · have hfn : X.fn x = true := by
      rcases hf with z | z
      · exact z
      · rw [z] at hk; cases hk
    obtain ⟨c, hc⟩ := I.ok.has x (.inl hk)
    obtain ⟨w', z⟩ := I.cell x c hc
    refine wpAny_storeName_cell I.ok.kind hk hc z (fun h' hc' hs => ?_)
    obtain ⟨oc, hoc, hocd⟩ := id z
    refine h { s with heap := h' } ⟨I.ok, I.os, I.bare, ⟨fun b o e n hb hx => ?_, fun b o e n hb hx => ?_, I.base.free, fun b o e hx => ?_, I.base.tups, I.base.frzs, I.base.tbls⟩, ⟨m, hn.sameBut hs (Ne.symm (cne x c hc)), fun j y v' e1 e2 e3 => ?_⟩, fun y c' e => ?_, I.free, I.freeC, fun p hp => ?_, tracked ⟨oc, hoc, I.freeC x c hc⟩ hs, by simpa using I.len⟩ ⟨c, hs, .inr hc⟩
    · exact (hs.2 b (Nat.ne_of_lt (Nat.lt_of_lt_of_le (Heap.lt_size e) (I.ok.cab x c hfn hc)))).trans (I.base.keep b o e n hb hx)
    · obtain ⟨sl, e1⟩ := I.base.slot b o e n hb hx
      exact ⟨sl, (hs.2 b (Nat.ne_of_lt (Nat.lt_of_lt_of_le (Heap.lt_size e) (I.ok.cab x c hfn hc)))).trans e1⟩
    · obtain ⟨o', e1⟩ := I.base.there b o e hx
      exact ⟨o', (hs.2 b (Nat.ne_of_lt (Nat.lt_of_lt_of_le (Heap.lt_size e) (I.ok.cab x c hfn hc)))).trans e1⟩
    · by_cases hj : j = i
      · subst hj
        rw [hi] at e1; cases e1
        rw [List.getElem?_set_self hiσ] at e2
        cases e2
        exact ⟨u, r, .inr ⟨.inl hk, c, hc, hc'⟩⟩
      · rw [List.getElem?_set_ne (Ne.symm hj)] at e2
        obtain ⟨u', r', q⟩ := hl j y v' e1 e2 e3
        refine ⟨u', r', ?_⟩
        rcases q with q | ⟨k, c', e, z'⟩
        · exact .inl q
        · refine .inr ⟨k, c', e, z'.sameBut hs ?_⟩
          rintro rfl
          exact hj (nodup_ix hN e1 (I.ok.inj _ _ _ e hc ▸ hi))
    · by_cases hcc : c' = c
      · subst hcc; exact ⟨_, hc'⟩
      · obtain ⟨w2, z2⟩ := I.cell y c' e
        exact ⟨w2, z2.sameBut hs hcc⟩
    · obtain ⟨e, n, ne, nf, d⟩ := I.pin p hp
      refine ⟨(hs.2 p.1 ?_).trans e, n, ne, nf, d⟩
      intro q
      rw [q, hoc] at e
      have q' : oc = p.2 := Option.some.inj e
      exact d w' (by rw [← q']; exact hocd)
theorem store_ok {M : Model} {A : Around} {E : Value → Shared → Prop} {i : Nat} {x : Str} {v : V} {u : Value} {Q : Unit → Shared → Prop} (I : Inv X pins σ H s) (hN : X.N.Nodup) (hi : X.N[i]? = some x) (hx : Loc X.env.scope x) (r : RelV v u)
    (h : ∀ s', Inv X pins (σ.set i (some v)) H s' → Q () s') (hf : X.fn x = true ∨ X.env.scope.names.lookup x = some .local := by first | exact .inl rfl | exact .inr rfl | assumption) : wpAny M A (storeName X.env x u) Q E s :=
  store_ok2 I hN hi hx r (fun s' I' _ => h s' I') hf
theorem Inv.call' {s' : Shared} {ch : List Addr} (I : Inv X pins σ H s) (ho : s'.os = s.os) (u : Un (frs X.stack) ch H H' s.heap s'.heap) (hok : HOk X.prog X.w H' s'.heap) (hg : AllBare s'.gens)
    (hch : ∀ b ∈ ch, (b ∈ X.ex ∨ X.s₀.heap.objs.size ≤ b) ∧ b ≠ X.env.locals ∧ (∀ x c, X.env.cells.lookup x = some c → c ≠ b) ∧ ∀ p ∈ X.pn ++ pins, p.1 ≠ b) : Inv X pins σ H' s' := by
  obtain ⟨h', g', d', t', o'⟩ := s'
  have e : o' = s.os := ho
  subst e
  exact I.call (g' := g') (t' := t') (d' := d') u hok hg hch
end
abbrev XK := Value → Option Addr → Hp → Prop
abbrev St := List (Option V)
abbrev VK := V → Hp → Prop
abbrev TE := St → Hp → VK → Prop
abbrev TT := St → Hp → (Bool → Hp → Prop) → Prop
abbrev TA := St → Hp → (List V → Hp → Prop) → Prop
structure Ends where
  nx : St → Hp → Prop
  rt : VK
  bk : St → Hp → Prop := fun _ _ => False
  ct : St → Hp → Prop := fun _ _ => False
abbrev TS := Ends → St → Hp → Prop

def EP (X : Cx) (pins : List (Addr × Obj)) (σ : St) (Q : VK) (u : Value) (s' : Shared) : Prop := ∃ v H', Inv X pins σ H' s' ∧ RelV v u ∧ Q v H'
def TP (X : Cx) (pins : List (Addr × Obj)) (σ : St) (Q : Bool → Hp → Prop) (b : Bool) (s' : Shared) : Prop := ∃ H', Inv X pins σ H' s' ∧ Q b H'
def AP (X : Cx) (pins : List (Addr × Obj)) (σ : St) (Q : List V → Hp → Prop) (us : List Value) (s' : Shared) : Prop := ∃ vs H', Inv X pins σ H' s' ∧ Vals vs us ∧ Q vs H'
def SP (X : Cx) (pins : List (Addr × Obj)) (D : Ends) (f : Flow) (s' : Shared) : Prop :=
  match f with
  | .next => ∃ σ' H', Inv X pins σ' H' s' ∧ D.nx σ' H'
  | .brk => ∃ σ' H', Inv X pins σ' H' s' ∧ D.bk σ' H'
  | .cont => ∃ σ' H', Inv X pins σ' H' s' ∧ D.ct σ' H'
  | .ret u => ∃ v σ' H', Inv X pins σ' H' s' ∧ RelV v u ∧ D.rt v H'

def PE (X : Cx) (e : Expr) (t : TE) : Prop :=
  ∀ (pins : List (Addr × Obj)) (s : Shared) (σ : St) (H : Hp) (Q : VK), Inv X pins σ H s → t σ H Q → wpAny (model X.prog X.w) X.A (eval e X.env) (EP X pins σ Q) X.xe s
def PT (X : Cx) (e : Expr) (t : TT) : Prop :=
  ∀ (pins : List (Addr × Obj)) (s : Shared) (σ : St) (H : Hp) (Q : Bool → Hp → Prop), Inv X pins σ H s → t σ H Q → wpAny (model X.prog X.w) X.A (isTrue e X.env (eval e X.env)) (TP X pins σ Q) X.xe s
def PW (X : Cx) (e : Expr) (t : TT) : Prop :=
  ∀ (whole : Sem Value) (pins : List (Addr × Obj)) (s : Shared) (σ : St) (H : Hp) (Q : Bool → Hp → Prop), Inv X pins σ H s → t σ H Q → wpAny (model X.prog X.w) X.A (isTrue e X.env whole) (TP X pins σ Q) X.xe s
theorem PW.pt {X : Cx} {e : Expr} {t : TT} (h : PW X e t) : PT X e t := h _
def PA (X : Cx) (es : List Expr) (t : TA) : Prop :=
  ∀ (pos : Pos) (pins : List (Addr × Obj)) (s : Shared) (σ : St) (H : Hp) (Q : List V → Hp → Prop), Inv X pins σ H s → t σ H Q → wpAny (model X.prog X.w) X.A (spliced (backTo pos (starEach es X.env))) (AP X pins σ Q) X.xe s
def PS (X : Cx) (st : Stmt) (t : TS) : Prop :=
  ∀ (pins : List (Addr × Obj)) (s : Shared) (σ : St) (H : Hp) (D : Ends), Inv X pins σ H s → t D σ H → wpAny (model X.prog X.w) X.A (exec st X.env) (SP X pins D) X.xe s
def PSs (X : Cx) (st : List Stmt) (t : TS) : Prop :=
  ∀ (pins : List (Addr × Obj)) (s : Shared) (σ : St) (H : Hp) (D : Ends), Inv X pins σ H s → t D σ H → wpAny (model X.prog X.w) X.A (execs st X.env) (SP X pins D) X.xe s
theorem thn {α : Type} {t : Sem α} {Q Q' : α → Shared → Prop} {M : Model} {A : Around} {E : Value → Shared → Prop} {s : Shared} (h : wpAny M A t Q E s) (hQ : ∀ a s, Q a s → Q' a s) : wpAny M A t Q' E s := wpAny_mono h hQ fun _ _ x => x
end L2

namespace L2
open PySem PySem.Spec PyProof.Rows
section
variable {X : Cx}
def tVar (i : Nat) : TE := fun σ H Q => ∃ v, σ[i]? = some (some v) ∧ Q v H
def tC (v : V) : TE := fun _ H Q => Q v H
theorem pe_var {i : Nat} {x : Str} {pos : Pos} (hN : X.N[i]? = some x) (hv : Vis X.env.scope x) (hd : (x == ("__debug__" : Str)) = false := by decide) (hcd : (x == ("__classdict__" : Str)) = false := by decide) : PE X (.Name x pos) (tVar i) := by
  intro pins s σ H Q I h
  obtain ⟨v, e, h⟩ := h
  obtain ⟨m, hn, hl⟩ := I.loc
  obtain ⟨u, r, l⟩ := hl i x v hN e hv
  have fin : EP X pins σ Q u s := ⟨v, H, I, r, h⟩
  rcases l with ⟨hk, hm⟩ | ⟨hk, c, hc, hcell⟩
  · exact wpAny_Name (wpAny_loadName_local I.ok.kind hk hn hm fin) hd
  · rcases hk with hk | hk
    · exact wpAny_Name (wpAny_loadName_cell I.ok.kind hk hc hcell fin) hd
    · exact wpAny_Name (wpAny_loadName_free I.ok.kind hk hc hcell fin hcd) hd
theorem pe_int {i j pos} : PE X (.Constant (.int i) j pos) (tC (.int i)) := fun _ _ _ H _ I h => wpAny_Constant_int ⟨.int i, H, I.tok _, ⟨_, rfl⟩, h⟩
theorem pe_bl {b j pos} : PE X (.Constant (.bool b) j pos) (tC (.bl b)) := fun _ _ _ H _ I h => Constant_bool ⟨.bl b, H, I, rfl, h⟩
theorem pe_non {j pos} : PE X (.Constant .none j pos) (tC .non) := fun _ _ _ H _ I h => Constant_none ⟨.non, H, I, rfl, h⟩
theorem pe_str {x j pos} : PE X (.Constant (.str x) j pos) (tC (.str x)) := fun _ _ _ H _ I h => Calls.Constant_str ⟨.str x, H, I.tok _, ⟨_, rfl⟩, h⟩
def Gl (X : Cx) (x : Str) : Prop := X.env.kindOf x = some .globalImplicit
theorem ld_glob {E : Value → Shared → Prop} {pins : List (Addr × Obj)} {s : Shared} {σ : St} {H : Hp} {x : Str} {u : Value} {pos : Pos} {Q : Value → Shared → Prop} (I : Inv X pins σ H s) (hg : Gl X x) (hm : X.mg x = some u) (h : Q u s)
    (hd : (x == ("__debug__" : Str)) = false := by decide) : wpAny (model X.prog X.w) X.A (eval (.Name x pos) X.env) Q E s :=
  Calls.Name_function_global I.ok.kind hg (Calls.loadGlobal_global (by rw [I.ok.glob]; exact I.mod.glob.keeps I.bk) hm h) hd
theorem ld_blt {E : Value → Shared → Prop} {pins : List (Addr × Obj)} {s : Shared} {σ : St} {H : Hp} {x : Str} {u : Value} {pos : Pos} {Q : Value → Shared → Prop} (I : Inv X pins σ H s) (hg : Gl X x) (hm : X.mg x = none) (hv : bootBuiltins x = some u) (h : Q u s)
    (hn : x ≠ "__name__" := by decide) (hd : (x == ("__debug__" : Str)) = false := by decide) : wpAny (model X.prog X.w) X.A (eval (.Name x pos) X.env) Q E s := by
  obtain ⟨mb, h1, h2⟩ := I.mod.blt
  exact Calls.Name_function_global I.ok.kind hg (Calls.loadGlobal_builtin (by rw [I.ok.glob]; exact I.mod.glob.keeps I.bk) hm (by rw [I.ok.blt]; exact h1.keeps I.bk) ((h2 x hn).trans hv) h) hd
variable {a b : Expr} {ta tb : TE} {pos : Pos}
def tB (t : TE) : TT := fun σ H Q => t σ H fun x H1 => ∃ c, x = .bl c ∧ Q c H1
theorem pt_val {e : Expr} {t : TE} (h : PE X e t) (he : ∀ whole, isTrue e X.env whole = (do let v ← whole; standAt e.pos; holding [v] (truthy v)) := by intro _; rfl) : PT X e (tB t) := by
  intro pins s σ H Q I hw
  refine isTrue_plain (thn (h pins s σ H _ I hw) fun v s1 ⟨x, H1, I1, r1, q1⟩ => ?_) (he _)
  obtain ⟨d, rfl, q⟩ := q1
  cases r1
  exact wpAny_truthy_bool ⟨H1, I1, q⟩
variable {tA tB' : TT} {rest : List Expr}
def tAnd (t u : TT) : TT := fun σ H Q => t σ H fun c H1 => if c = true then u σ H1 Q else Q false H1
def tOr (t u : TT) : TT := fun σ H Q => t σ H fun c H1 => if c = true then Q true H1 else u σ H1 Q
def tNot (t : TT) : TT := fun σ H Q => t σ H fun c H1 => Q (!c) H1
theorem pw_and1 (ha : PT X a tA) : PW X (.BoolOp .And [a] pos) tA := by
  intro wh pins s σ H Q I h
  refine isTrue_and (thn (ha pins s σ H Q I h) fun c s1 e => ?_)
  cases c with
  | true => exact isTrue_and_nil e
  | false => exact e
theorem pw_or1 (ha : PT X a tA) : PW X (.BoolOp .Or [a] pos) tA := by
  intro wh pins s σ H Q I h
  refine isTrue_or (thn (ha pins s σ H Q I h) fun c s1 e => ?_)
  cases c with
  | false => exact isTrue_or_nil e
  | true => exact e
theorem pw_and (ha : PT X a tA) (hb : PW X (.BoolOp .And (b :: rest) pos) tB') : PW X (.BoolOp .And (a :: b :: rest) pos) (tAnd tA tB') := by
  intro wh pins s σ H Q I h
  refine isTrue_and (thn (ha pins s σ H _ I h) fun c s1 ⟨H1, I1, q1⟩ => ?_)
  cases c with
  | true => exact hb wh pins s1 σ H1 Q I1 q1
  | false => exact ⟨H1, I1, q1⟩
theorem pw_or (ha : PT X a tA) (hb : PW X (.BoolOp .Or (b :: rest) pos) tB') : PW X (.BoolOp .Or (a :: b :: rest) pos) (tOr tA tB') := by
  intro wh pins s σ H Q I h
  refine isTrue_or (thn (ha pins s σ H _ I h) fun c s1 ⟨H1, I1, q1⟩ => ?_)
  cases c with
  | true => exact ⟨H1, I1, q1⟩
  | false => exact hb wh pins s1 σ H1 Q I1 q1
theorem pt_not (ha : PT X a tA) : PT X (.UnaryOp .Not a pos) (tNot tA) := by
  intro pins s σ H Q I h
  exact isTrue_not (ha pins s σ H (fun c H1 => Q (!c) H1) I h)
def tAndV (ta tb : TE) : TE := fun σ H Q => ta σ H fun x H1 => ∃ c, x = .bl c ∧ if c = true then tb σ H1 Q else Q (.bl false) H1
theorem pe_one {op} {t : TE} (h : PE X a t) : PE X (.BoolOp op [a] pos) t := fun pins s σ H Q I hw => BoolOp_one (h pins s σ H Q I hw)
theorem pe_and (ha : PE X a ta) (hb : PE X (.BoolOp .And (b :: rest) pos) tb) : PE X (.BoolOp .And (a :: b :: rest) pos) (tAndV ta tb) := by
  intro pins s σ H Q I h
  refine BoolOp_and (thn (ha pins s σ H _ I h) fun v s1 ⟨x, H1, I1, r1, q1⟩ => ?_)
  obtain ⟨c, rfl, q1⟩ := q1
  cases r1
  refine wpAny_truthy_bool ?_
  cases c with
  | true => exact hb pins s1 σ H1 Q I1 q1
  | false => exact ⟨.bl false, H1, I1, rfl, q1⟩
end
end L2

namespace L2
open PySem PySem.Spec PyProof.Rows
def SqL (K : PySem.W.Frag) (H : Hp) (a : Addr) (xs : List V) : Prop :=
  Rd H a (.lst xs) ∨
    ∃ (o : Obj) (its : Array Value) (n : Nat), K.lookup a = some o ∧ o.cls = .type "list" ∧ o.dict = none ∧ o.data = .seq its n ∧ its.size ≤ sizeLine ∧ Vals xs its.toList
def SqT (K : PySem.W.Frag) (H : Hp) (a : Addr) (xs : List V) : Prop :=
  Rd H a (.tup xs) ∨
    ∃ (o : Obj) (its : Array Value) (n : Nat), K.lookup a = some o ∧ o.cls = .type "tuple" ∧ o.data = .seq its n ∧ its.size ≤ sizeLine ∧ Vals xs its.toList
def absV : Value → Option V
  | .none => some .non
  | .bool b => some (.bl b)
  | .int i _ => some (.int i)
  | .str x _ => some (.str x)
  | .bytes b _ => some (.byt b)
  | .float b _ => some (.flt b)
  | .ref a => some (.ref a)
  | .type n => some (.ty n)
  | _ => none
theorem RelV.abs {x : V} {u : Value} (r : RelV x u) : absV u = some x := by
  cases x with
  | non => cases r; rfl
  | bl _ => cases r; rfl
  | int _ => obtain ⟨t, rfl⟩ := r; rfl
  | str _ => obtain ⟨t, rfl⟩ := r; rfl
  | byt _ => obtain ⟨t, rfl⟩ := r; rfl
  | flt _ => obtain ⟨t, rfl⟩ := r; rfl
  | ref _ => cases r; rfl
  | ty _ => cases r; rfl
theorem RelV.inj {x y : V} {u : Value} (r : RelV x u) (q : RelV y u) : x = y := Option.some.inj (r.abs.symm.trans q.abs)
theorem Vals.inj : ∀ {xs ys : List V} {us : List Value}, Vals xs us → Vals ys us → xs = ys
  | _, _, _, .nil, .nil => rfl
  | _, _, _, .cons r t, .cons r' t' => by rw [r.inj r', Vals.inj t t']
section
variable {X : Cx} {pins : List (Addr × Obj)} {σ : St} {H : Hp} {s : Shared} {a : Addr} {xs ys : List V}
theorem SqL.of {K : PySem.W.Frag} (h : H a = some (.lst xs)) : SqL K H a xs := .inl (.inl h)
theorem SqT.of {K : PySem.W.Frag} (h : H a = some (.tup xs)) : SqT K H a xs := .inl (.inl h)
theorem Inv.list (I : Inv X pins σ H s) (h : SqL X.K H a xs) : ∃ its : List Value, Vals xs its ∧ PlainL s.heap a its.toArray ∧ xs.length ≤ sizeLine := by
  rcases h with h | ⟨o, its, n, hk, hc, hd, hs, hz, r⟩
  · obtain ⟨z, its, n, r, e⟩ := h.ok I.hok
    exact ⟨its, r, ⟨_, n, e, rfl, rfl, rfl⟩, z⟩
  · refine ⟨its.toList, r, ⟨o, n, I.kIn a o hk, hc, hd, by simpa using hs⟩, ?_⟩
    have e := r.length
    simp only [Array.length_toList] at e
    omega
theorem Inv.tuple (I : Inv X pins σ H s) (h : SqT X.K H a xs) : ∃ its : List Value, Vals xs its ∧ IsTup s.heap a its.toArray ∧ xs.length ≤ sizeLine := by
  rcases h with h | ⟨o, its, n, hk, hc, hs, hz, r⟩
  · obtain ⟨z, its, r, p⟩ := h.ok I.hok
    exact ⟨its, r, p.tup, z⟩
  · refine ⟨its.toList, r, ⟨o, I.kIn a o hk, hc, n, by simpa using hs⟩, ?_⟩
    have e := r.length
    simp only [Array.length_toList] at e
    omega
theorem Inv.list_inj (I : Inv X pins σ H s) (h : SqL X.K H a xs) (h' : SqL X.K H a ys) : xs = ys := by
  obtain ⟨its, r, ⟨o, n, e, _, _, d⟩, _⟩ := I.list h
  obtain ⟨its', r', ⟨o', n', e', _, _, d'⟩, _⟩ := I.list h'
  rw [e] at e'; cases e'
  rw [d] at d'
  injection d' with d1 _
  have : its = its' := by simpa using congrArg Array.toList d1
  subst this
  exact r.inj r'
theorem Inv.tuple_inj (I : Inv X pins σ H s) (h : SqT X.K H a xs) (h' : SqT X.K H a ys) : xs = ys := by
  obtain ⟨its, r, ⟨o, e, _, n, d⟩, _⟩ := I.tuple h
  obtain ⟨its', r', ⟨o', e', _, n', d'⟩, _⟩ := I.tuple h'
  rw [e] at e'; cases e'
  rw [d] at d'
  injection d' with d1 _
  have : its = its' := by simpa using congrArg Array.toList d1
  subst this
  exact r.inj r'
end
abbrev Cx.wish (X : Cx) (E : Value → Shared → Prop) : Cx := { X with xe := E }
abbrev Cx.nox (X : Cx) : Cx := X.wish fun _ _ => False
theorem Cx.Ok.wish {X : Cx} (ok : X.Ok) (E : Value → Shared → Prop) : (X.wish E).Ok :=
  ⟨ok.mod, ok.kind, ok.glob, ok.blt, ok.above, ok.inj, ok.has, ok.cab, ok.hd, ok.frames, ok.stk, ok.exf, ok.bs, ok.bsz, ok.noex, ok.exfs, ok.funs, ok.frf⟩
theorem Cx.Ok.unwish {X : Cx} {E : Value → Shared → Prop} (ok : (X.wish E).Ok) : X.Ok :=
  ⟨ok.mod, ok.kind, ok.glob, ok.blt, ok.above, ok.inj, ok.has, ok.cab, ok.hd, ok.frames, ok.stk, ok.exf, ok.bs, ok.bsz, ok.noex, ok.exfs, ok.funs, ok.frf⟩
section
variable {X : Cx} {pins : List (Addr × Obj)} {σ : St} {H : Hp} {s : Shared} {E : Value → Shared → Prop}
theorem Inv.wish (I : Inv X pins σ H s) (E : Value → Shared → Prop) : Inv (X.wish E) pins σ H s := ⟨I.ok.wish E, I.os, I.bare, I.base, I.loc, I.cell, I.free, I.freeC, I.pin, I.hok, I.len⟩
theorem Inv.unwish (I : Inv (X.wish E) pins σ H s) : Inv X pins σ H s := ⟨I.ok.unwish, I.os, I.bare, I.base, I.loc, I.cell, I.free, I.freeC, I.pin, I.hok, I.len⟩
theorem SP.unwish {D : Ends} {f : Flow} {s' : Shared} (h : SP (X.wish E) pins D f s') : SP X pins D f s' := by
  cases f with
  | next => obtain ⟨σ', H', I, q⟩ := h; exact ⟨σ', H', I.unwish, q⟩
  | brk => obtain ⟨σ', H', I, q⟩ := h; exact ⟨σ', H', I.unwish, q⟩
  | cont => obtain ⟨σ', H', I, q⟩ := h; exact ⟨σ', H', I.unwish, q⟩
  | ret u => obtain ⟨v, σ', H', I, r, q⟩ := h; exact ⟨v, σ', H', I.unwish, r, q⟩
theorem PSs.nox {st : List Stmt} {t : TS} (h : PSs X.nox st t) : PSs X st t := fun pins s σ H D I hw =>
  wpAny_mono (h pins s σ H D (I.wish _) hw) (fun _ _ q => q.unwish) fun _ _ z => False.elim z
end
section
variable {X : Cx} {st : Stmt} {rest : List Stmt} {t u : TS} {e : Expr} {te : TE} {pos : Pos}
def tNext : TS := fun D σ H => D.nx σ H
def tSeq (t u : TS) : TS := fun D σ H => t { D with nx := u D } σ H
theorem pss_nil : PSs X [] tNext := fun _ _ σ H _ I h => wpAny_execs_nil ⟨σ, H, I, h⟩
theorem pss_cons (h1 : PS X st t) (h2 : PSs X rest u) : PSs X (st :: rest) (tSeq t u) := by
  intro pins s σ H D I h
  refine wpAny_execs_cons (thn (h1 pins s σ H { D with nx := u D } I h) fun f s1 q => ?_)
  cases f with
  | next =>
    obtain ⟨σ', H', I', q⟩ := q
    exact h2 pins s1 σ' H' D I' q
  | ret v => exact q
  | brk => exact q
  | cont => exact q
theorem pss_one (h1 : PS X st t) : PSs X [st] t := by
  intro pins s σ H D I h
  refine wpAny_execs_cons (thn (h1 pins s σ H D I h) fun f s1 q => ?_)
  cases f with
  | next => exact wpAny_execs_nil q
  | ret v => exact q
  | brk => exact q
  | cont => exact q
theorem Inv.quiet {pins : List (Addr × Obj)} {σ : St} {H : Hp} {s : Shared} (I : Inv X pins σ H s) : interactive X.env = false := by simp [interactive, I.ok.kind]
def tDrop (te : TE) : TS := fun D σ H => te σ H fun _ H1 => D.nx σ H1
theorem ps_expr (he : PE X e te) (hs : swapsWith e none pos.line X.env = pure false := by rfl) : PS X (.Expr e pos) (tDrop te) := by
  intro pins s σ H D I h
  exact wpAny_Expr_any (thn (he pins s σ H _ I h) fun v s1 ⟨x, H1, I1, r1, q1⟩ => ⟨σ, H1, I1, q1⟩) I.quiet hs
def tRet (te : TE) : TS := fun D σ H => te σ H D.rt
theorem ps_ret (he : PE X e te) : PS X (.Return (some e) pos) (tRet te) := by
  intro pins s σ H D I h
  exact wpAny_Return_some (thn (he pins s σ H _ I h) fun v s1 ⟨x, H1, I1, r1, q1⟩ => ⟨x, σ, H1, I1, r1, q1⟩)
def tIfS (c : TT) (t u : TS) : TS := fun D σ H => c σ H fun b H1 => if b = true then t D σ H1 else u D σ H1
theorem ps_if {c : Expr} {a b : List Stmt} {tc : TT} (hc : PT X c tc) (ha : PSs X a t) (hb : PSs X b u) : PS X (.If c a b pos) (tIfS tc t u) := by
  intro pins s σ H D I h
  refine wpAny_If (thn (hc pins s σ H _ I h) fun d s1 ⟨H1, I1, q1⟩ => ?_)
  cases d with
  | true => exact ha pins s1 σ H1 D I1 q1
  | false => exact hb pins s1 σ H1 D I1 q1
end
abbrev TG := V → St → Hp → (St → Hp → Prop) → Prop
abbrev TGs := List V → St → Hp → (St → Hp → Prop) → Prop
def PG (X : Cx) (target : Expr) (t : TG) : Prop :=
  ∀ (pins : List (Addr × Obj)) (s : Shared) (σ : St) (H : Hp) (v : V) (u : Value) (Q : St → Hp → Prop), Inv X pins σ H s → RelV v u → t v σ H Q →
    wpAny (model X.prog X.w) X.A (assign target X.env u) (fun _ s' => ∃ σ' H', Inv X pins σ' H' s' ∧ Q σ' H') X.xe s
def PGs (X : Cx) (ts : List Expr) (t : TGs) : Prop :=
  ∀ (pins : List (Addr × Obj)) (s : Shared) (σ : St) (H : Hp) (vs : List V) (us : List Value) (Q : St → Hp → Prop), Inv X pins σ H s → Vals vs us → t vs σ H Q →
    wpAny (model X.prog X.w) X.A (assignInOrder ((assignEach ts X.env).map (·.2)) us) (fun _ s' => ∃ σ' H', Inv X pins σ' H' s' ∧ Q σ' H') X.xe s
abbrev TSet := V → V → V → Hp → (Hp → Prop) → Prop
def PSet (X : Cx) (t : TSet) : Prop :=
  ∀ (pins : List (Addr × Obj)) (s : Shared) (σ : St) (H : Hp) (o i v : V) (ov iv u : Value) (Q : Hp → Prop), Inv X pins σ H s → RelV o ov → RelV i iv → RelV v u → t o i v H Q →
    wpAny (model X.prog X.w) X.A (setItem ov iv u) (fun _ s' => ∃ H', Inv X pins σ H' s' ∧ Q H') X.xe s
abbrev TIp := V → V → Hp → VK → Prop
def PIp (X : Cx) (op : Operator) (t : TIp) : Prop :=
  ∀ (pins : List (Addr × Obj)) (s : Shared) (σ : St) (H : Hp) (x y : V) (v u : Value) (Q : VK), Inv X pins σ H s → RelV x v → RelV y u → t x y H Q →
    wpAny (model X.prog X.w) X.A (inplaceOp op v u) (EP X pins σ Q) X.xe s
section
variable {X : Cx} {pos : Pos}
def gName (i : Nat) : TG := fun v σ H Q => Q (σ.set i (some v)) H
theorem pg_name {i : Nat} {x : Str} (hN : X.N.Nodup) (hi : X.N[i]? = some x) (hx : Loc X.env.scope x) (hf : X.fn x = true ∨ X.env.scope.names.lookup x = some .local := by first | exact .inl rfl | exact .inr rfl | assumption) : PG X (.Name x pos) (gName i) := by
  intro pins s σ H v u Q I r h
  exact wpAny_assign_Name (store_ok I hN hi hx r (fun s' I' => ⟨_, H, I', h⟩) hf)
def gNil : TGs := fun vs σ H Q => vs = [] ∧ Q σ H
def gCons (t : TG) (u : TGs) : TGs := fun vs σ H Q => ∃ v r, vs = v :: r ∧ t v σ H fun σ' H' => u r σ' H' Q
theorem pgs_nil : PGs X [] gNil := by
  intro pins s σ H vs us Q I r h
  obtain ⟨e, h⟩ := h
  subst e
  cases r
  exact assignInOrder_nil ⟨σ, H, I, h⟩
theorem pgs_cons {e : Expr} {es : List Expr} {t : TG} {u : TGs} (h1 : PG X e t) (h2 : PGs X es u)
    (hs : (assignEach (e :: es) X.env).map (·.2) = assign e X.env :: (assignEach es X.env).map (·.2) := by rfl) : PGs X (e :: es) (gCons t u) := by
  intro pins s σ H vs us Q I r h
  obtain ⟨v, vr, e1, h⟩ := h
  subst e1
  cases r with
  | cons r rr =>
    rw [hs]
    refine assignInOrder_cons (thn (h1 pins s σ H _ _ _ I r h) fun _ s1 ⟨σ1, H1, I1, q1⟩ => ?_)
    exact h2 pins s1 σ1 H1 _ _ Q I1 rr q1
def gTup (K : PySem.W.Frag) (n : Nat) (t : TGs) : TG := fun v σ H Q => ∃ a xs, v = .ref a ∧ SqT K H a xs ∧ xs.length = n ∧ t xs σ H Q
theorem pg_tup {es : List Expr} {k : Nat} {t : TGs} {n : Nat} (hc : X.calm = true) (h : PGs X es t)
    (hn : (assignEach es X.env).length = n := by rfl) (hst : (assignEach es X.env).findIdx? (·.1) = none := by rfl) : PG X (.Tuple es k pos) (gTup X.K n t) := by
  intro pins s σ H v u Q I r hw
  obtain ⟨a, xs, e1, hq, hl, hw⟩ := hw
  subst e1
  cases r
  obtain ⟨its, rv, ht, hz⟩ := I.tuple hq
  refine assign_Tuple_tuple (I.ok.hd hc) ht (by simp [hn, ← hl, rv.length]) hst fun h' hx => ?_
  have I1 : Inv X pins σ H { s with heap := h' } := I.kept (t' := s.toks) fun b o e => hx b o (Nat.ne_of_lt (Heap.lt_size e)) e
  exact h pins _ σ H xs _ Q I1 (by simpa using rv) hw
def gSub (to ti : TE) (t : TSet) : TG := fun v σ H Q => to σ H fun o H1 => ti σ H1 fun i H2 => t o i v H2 fun H3 => Q σ H3
theorem pg_sub {o i : Expr} {to ti : TE} {t : TSet} (ho : PE X o to) (hi : PE X i ti) (hs : PSet X t)
    (ha : ∀ v, assign (.Subscript o i pos) X.env v = (do
      let ov ← holding [v] (eval o X.env)
      let iv ← holding [v, ov] (eval i X.env)
      standAt pos
      holding [v, ov, iv] (setItem ov iv v)
      release [v, ov, iv] []) := by intro _; rfl) : PG X (.Subscript o i pos) (gSub to ti t) := by
  intro pins s σ H v u Q I r h
  rw [ha]
  refine wpAny_bind (wpAny_holding (thn (ho pins s σ H _ I h) fun ov s1 ⟨x, H1, I1, r1, q1⟩ => ?_))
  refine wpAny_bind (wpAny_holding (thn (hi pins s1 σ H1 _ I1 q1) fun iv s2 ⟨y, H2, I2, r2, q2⟩ => ?_))
  refine wpAny_bind (wpAny_standAt (wpAny_bind (wpAny_holding (thn (hs pins s2 σ H2 x y v ov iv u _ I2 r1 r2 r q2) fun _ s3 ⟨H3, I3, q3⟩ => ?_))))
  exact wpAny_release ⟨σ, H3, I3, q3⟩
def tAsg (te : TE) (g : TG) : TS := fun D σ H => te σ H fun x H1 => g x σ H1 D.nx
theorem ps_asg {tg e : Expr} {te : TE} {g : TG} (he : PE X e te) (hg : PG X tg g) (hs : swapsWithSole [tg] e pos.line X.env = pure false := by rfl) (hw : swappedStores [tg] e X.env = pure none := by rfl)
    (h1 : (assignEach [tg] X.env).map (·.2) = [assign tg X.env] := by rfl) : PS X (.Assign [tg] e pos) (tAsg te g) := by
  intro pins s σ H D I h
  refine wpAny_Assign_stores (thn (he pins s σ H _ I h) fun v s1 ⟨x, H1, I1, r1, q1⟩ => ?_) hs hw
  rw [h1]
  exact thn (hg pins s1 σ H1 x v _ I1 r1 q1) fun _ s2 q => q
theorem ps_set {i : Nat} {x : Str} {e : Expr} {te : TE} {pos' : Pos} (hN : X.N.Nodup) (hi : X.N[i]? = some x) (hx : Loc X.env.scope x) (he : PE X e te) (hs : swapsWith e (some (.Name x pos')) pos.line X.env = pure false := by rfl) (hf : X.fn x = true ∨ X.env.scope.names.lookup x = some .local := by first | exact .inl rfl | exact .inr rfl | assumption) :
    PS X (.Assign [.Name x pos'] e pos) (tAsg te (gName i)) := by
  intro pins s σ H D I h
  refine wpAny_Assign_Name (thn (he pins s σ H _ I h) fun v s1 ⟨y, H1, I1, r1, q1⟩ => ?_) hs
  exact store_ok I1 hN hi hx r1 (fun s2 I2 => ⟨_, H1, I2, q1⟩) hf
def tAug (i : Nat) (te : TE) (ti : TIp) : TS := fun D σ H => ∃ x, σ[i]? = some (some x) ∧ te σ H fun y H1 => ti x y H1 fun z H2 => D.nx (σ.set i (some z)) H2
theorem ps_aug {i : Nat} {x : Str} {e : Expr} {te : TE} {op : Operator} {ti : TIp} {pos' : Pos} (hN : X.N.Nodup) (hi : X.N[i]? = some x) (hx : Loc X.env.scope x) (he : PE X e te) (ho : PIp X op ti) (hf : X.fn x = true ∨ X.env.scope.names.lookup x = some .local := by first | exact .inl rfl | exact .inr rfl | assumption) :
    PS X (.AugAssign (.Name x pos') op e pos) (tAug i te ti) := by
  intro pins s σ H D I h
  obtain ⟨v, e1, h⟩ := h
  obtain ⟨m, hn, hl⟩ := I.loc
  have vis : Vis X.env.scope x := by rcases hx with k | k; exact .inl k; exact .inr (.inl k)
  obtain ⟨u, r, l⟩ := hl i x v hi e1 vis
  refine wpAny_AugAssign_Name ?_
  have go : wpAny (model X.prog X.w) X.A (eval e X.env) (fun w s₂ => wpAny (model X.prog X.w) X.A (inplaceOp op u w) (fun r s₃ => wpAny (model X.prog X.w) X.A (storeName X.env x r) (fun _ => SP X pins D .next) X.xe s₃) X.xe s₂) X.xe s := by
    refine thn (he pins s σ H _ I h) fun w s1 ⟨y, H1, I1, r1, q1⟩ => ?_
    refine thn (ho pins s1 σ H1 v y u w _ I1 r r1 q1) fun z s2 ⟨zv, H2, I2, r2, q2⟩ => ?_
    exact store_ok I2 hN hi hx r2 (fun s3 I3 => ⟨_, H2, I3, q2⟩) hf
  rcases l with ⟨hk, hm⟩ | ⟨hk, c, hc, hcell⟩
  · exact wpAny_loadName_local I.ok.kind hk hn hm go
  · rcases hk with hk | hk
    · exact wpAny_loadName_cell I.ok.kind hk hc hcell go
    · rcases hx with k | k
      · have : X.env.scope.names.lookup x = some .free := hk
        rw [k] at this; cases this
      · have : X.env.scope.names.lookup x = some .free := hk
        rw [k] at this; cases this
end
section
variable {X : Cx} {pos : Pos}
def tWhile (c : TT) (tb : TS) : TS := fun D σ H => ∃ W : Nat → St → Hp → Prop, (∃ m, W m σ H) ∧ ∀ m σ H, W m σ H →
  c σ H fun b H1 => if b = true then ∃ N : St → Hp → Prop, (∀ σ' H', N σ' H' → ∃ m', m' < m ∧ W m' σ' H') ∧ tb { D with nx := N, ct := N, bk := D.nx } σ H1 else D.nx σ H1
theorem ps_while {c : Expr} {body : List Stmt} {tc : TT} {tb : TS} (hp : PassesOwn (model X.prog X.w) X.A X.env X.xe) (hc : PT X c tc) (hb : PSs X body tb) : PS X (.While c body [] pos) (tWhile tc tb) := by
  intro pins s σ H D I h
  obtain ⟨W, ⟨m0, w0⟩, turn⟩ := h
  refine wpAny_While (codeAny_whileLoop (fun n s' => ∃ σ' H', Inv X pins σ' H' s' ∧ W n σ' H') ?_ m0 ⟨σ, H, I, w0⟩)
  rintro n s1 ⟨σ1, H1, I1, w1⟩
  refine wpAny_passesOwn hp (thn (hc pins s1 σ1 H1 _ I1 (turn n σ1 H1 w1)) fun b s2 ⟨H2, I2, q2⟩ => ?_)
  cases b with
  | true =>
    obtain ⟨N, hN, q2⟩ := q2
    rw [if_pos rfl]
    refine wpAny_passesOwn hp (thn (hb pins s2 σ1 H2 _ I2 q2) fun f s3 q3 => ?_)
    cases f with
    | next =>
      obtain ⟨σ3, H3, I3, n3⟩ := q3
      obtain ⟨m', hm, w3⟩ := hN σ3 H3 n3
      exact ⟨m', hm, σ3, H3, I3, w3⟩
    | cont =>
      obtain ⟨σ3, H3, I3, n3⟩ := q3
      obtain ⟨m', hm, w3⟩ := hN σ3 H3 n3
      exact ⟨m', hm, σ3, H3, I3, w3⟩
    | brk => exact q3
    | ret v => exact q3
  | false =>
    rw [if_neg Bool.false_ne_true]
    exact wpAny_execs_nil ⟨σ1, H2, I2, q2⟩
end
structure It where
  go : Nat → Hp → Prop
  yld : Nat → Hp → V → Hp → Prop
  stop : Nat → Hp → Prop
def FpOk (X : Cx) (pins : List (Addr × Obj)) (H : Hp) (b : Addr) : Prop :=
  H b = none ∧ b ≠ X.env.locals ∧ b ∉ X.fs ∧ (b ∈ X.ex ∨ X.s₀.heap.objs.size ≤ b) ∧ (∀ x c, X.env.cells.lookup x = some c → c ≠ b) ∧ ∀ p ∈ X.pn ++ pins, p.1 ≠ b
theorem Inv.fpOk {X : Cx} {pins : List (Addr × Obj)} {σ : St} {H H' : Hp} {s : Shared} {b : Addr} (I : Inv X pins σ H s) (hb : s.heap.objs.size ≤ b) (hn : H' b = none) : FpOk X pins H' b := by
  refine ⟨hn, Nat.ne_of_gt (Nat.lt_of_lt_of_le I.lt hb), I.nofs hb, .inr (Nat.le_trans I.sz hb), fun x c e z => ?_, fun p hp z => ?_⟩
  · obtain ⟨v, q⟩ := I.cell x c e
    exact absurd (Nat.lt_of_lt_of_le q.lt (by rw [z]; exact hb)) (Nat.lt_irrefl _)
  · exact absurd (Nat.lt_of_lt_of_le (Heap.lt_size (I.pin p hp).1) (by rw [z]; exact hb)) (Nat.lt_irrefl _)
structure Turn (P : Program) (w : World) (K : PySem.W.Frag) (tg : Expr) (J : It) (fp : List Addr) (it : Addr) (tn : Nat → Heap → Prop) : Prop where
  mem : it ∈ fp
  obj : ∀ i h, tn i h → ∀ b ∈ fp, ∃ o, h.get? b = some o ∧ ∀ v, o.data ≠ .cell v
  keep : ∀ i h h', tn i h → (∀ b ∈ fp, ∀ o, h.get? b = some o → h'.get? b = some o) → tn i h'
  item : ∀ (X : Cx), X.prog = P → X.w = w → X.K = K → X.calm = true → ∀ (i : Nat) (pins : List (Addr × Obj)) (s : Shared) (σ : St) (H : Hp) (E : Value → Shared → Prop), Inv X pins σ H s → (∀ b ∈ fp, FpOk X pins H b) → tn i s.heap → J.go i H →
    wpAny (model P w) X.A (pyNext (.ref it)) (fun r s1 => ∃ u, r = some u ∧
      wpAny (model P w) X.A (letOwnedTupleGo tg (.ref it) u) (fun _ s2 => ∃ x H', Inv X pins σ H' s2 ∧ RelV x u ∧ J.yld i H x H' ∧ tn (i + 1) s2.heap ∧ ∀ b ∈ fp, H' b = none) E s1) E s
  done : ∀ (X : Cx), X.prog = P → X.w = w → X.K = K → X.calm = true → ∀ (i : Nat) (pins : List (Addr × Obj)) (s : Shared) (σ : St) (H : Hp) (E : Value → Shared → Prop), Inv X pins σ H s → (∀ b ∈ fp, FpOk X pins H b) → tn i s.heap → J.stop i H →
    wpAny (model P w) X.A (pyNext (.ref it)) (fun r s1 => r = none ∧ Inv X pins σ H s1) E s
  self : ∀ (A : Around) (i : Nat) (s : Shared) (Q : Value → Shared → Prop) (E : Value → Shared → Prop), tn i s.heap → Q (.ref it) s → wpAny (model P w) A (pyIter (.ref it)) Q E s
abbrev TI := St → Hp → (It → Hp → Prop) → Prop
def PIE (X : Cx) (pins : List (Addr × Obj)) (σ : St) (tg : Expr) (R : It → Hp → Prop) (itv : Value) (s2 : Shared) : Prop :=
  ∃ (it : Addr) (fp : List Addr) (tn : Nat → Heap → Prop) (J : It) (H' : Hp), itv = .ref it ∧ Inv X pins σ H' s2 ∧ Turn X.prog X.w X.K tg J fp it tn ∧ tn 0 s2.heap ∧ (∀ b ∈ fp, FpOk X pins H' b) ∧ R J H'
def PI (X : Cx) (tg iter : Expr) (wi : TI) : Prop :=
  ∀ (pins : List (Addr × Obj)) (s : Shared) (σ : St) (H : Hp) (R : It → Hp → Prop), Inv X pins σ H s → wi σ H R →
    wpAny (model X.prog X.w) X.A (eval iter X.env) (fun v s1 => wpAny (model X.prog X.w) X.A (pyIter v) (PIE X pins σ tg R) X.xe s1) X.xe s
theorem go_of {M : Model} {A : Around} {E : Value → Shared → Prop} {s : Shared} {tg : Expr} {it : Addr} {u : Value} {o : Obj} {n : String} {vs : Array Value} {Q : Unit → Shared → Prop} (ho : s.heap.get? it = some o) (hc : o.cls = .type n) (hd : o.data = .fields vs)
    (hn : ["enumerate", "zip", "dict_itemiterator", "dict_reverseitemiterator", "odict_iterator", "itertools.zip_longest", "itertools.pairwise"].contains n = false) (hQ : Q () s) : wpAny M A (letOwnedTupleGo tg (.ref it) u) Q E s := by
  unfold letOwnedTupleGo
  cases tg <;> first
    | exact wpAny_pure hQ
    | (cases u <;> first
        | exact wpAny_pure hQ
        | (refine wpAny_bind (wpAny_load ho ?_)
           rw [hc, hd]
           show wpAny M A (if (["enumerate", "zip", "dict_itemiterator", "dict_reverseitemiterator", "odict_iterator", "itertools.zip_longest", "itertools.pairwise"].contains n && vs[0]? == some (rawInt _)) = true then _ else _) Q E s
           rw [if_neg (by intro h; rw [hn, Bool.false_and] at h; cases h)]
           exact wpAny_pure hQ))
def Itl (K : PySem.W.Frag) (a : Addr) : It :=
  ⟨fun i H => ∃ xs x, SqL K H a xs ∧ xs[i]? = some x, fun i H x H' => H' = H ∧ ∀ xs, SqL K H a xs → xs[i]? = some x, fun i H => ∃ xs, SqL K H a xs ∧ xs.length ≤ i⟩
def Itt (K : PySem.W.Frag) (a : Addr) : It :=
  ⟨fun i H => ∃ xs x, SqT K H a xs ∧ xs[i]? = some x, fun i H x H' => H' = H ∧ ∀ xs, SqT K H a xs → xs[i]? = some x, fun i H => ∃ xs, SqT K H a xs ∧ xs.length ≤ i⟩
def Itr (lo : Int) (n : Nat) : It := ⟨fun i _ => i < n, fun i H x H' => H' = H ∧ x = .int (lo + i), fun i _ => n ≤ i⟩
theorem turn_list {P : Program} {w : World} {K : PySem.W.Frag} {tg : Expr} (a it : Addr) : Turn P w K tg (Itl K a) [it] it (fun i h => h.IsListIter it a i) where
  mem := by simp
  obj := fun i h st b hb => by
    have e : b = it := by simpa using hb
    subst e
    obtain ⟨o, e, c, d⟩ := st
    exact ⟨o, e, fun v z => by rw [d] at z; cases z⟩
  keep := fun i h h' st k => st.at fun o e => k it (by simp) o e
  item := by
    intro X hP hw hK hc i pins s σ H E I hf st hg
    subst hP hw hK
    obtain ⟨xs, x, hq, hx⟩ := hg
    obtain ⟨its, rv, p, hz⟩ := I.list hq
    obtain ⟨u, hu, ru⟩ := rv.get hx
    obtain ⟨f0, f1, f2, f3, f4, f5⟩ := hf it (by simp)
    refine wpAny_pyNext_list_item st p.isList (x := u) (by simpa using hu) fun h' st' sb => ?_
    have I1 : Inv X pins σ H { s with heap := h' } := I.turned (t' := s.toks) (fun b o hb e => (sb.2 b hb).trans e) f0 f1 f3 f4 f5
    obtain ⟨o, e, c, d⟩ := id st'
    exact ⟨u, rfl, go_of (s := { s with heap := h' }) e c d (by decide) ⟨x, H, I1, ru, ⟨rfl, fun ys hy => by rw [I.list_inj hy hq]; exact hx⟩, st', fun b hb => (hf b hb).1⟩⟩
  done := by
    intro X hP hw hK hc i pins s σ H E I hf st hg
    subst hP hw hK
    obtain ⟨xs, hq, hx⟩ := hg
    obtain ⟨its, rv, p, hz⟩ := I.list hq
    obtain ⟨f0, f1, f2, f3, f4, f5⟩ := hf it (by simp)
    have hl := rv.length
    exact wpAny_pyNext_list_end (I.ok.hd hc) st p.isList (by simp; omega) fun h' eb => ⟨rfl, I.turned (t' := s.toks) (fun b o hb e => eb b o hb e) f0 f1 f3 f4 f5⟩
  self := fun _ _ _ _ _ st h => wpAny_pyIter_listiter st h
theorem turn_tuple {P : Program} {w : World} {K : PySem.W.Frag} {tg : Expr} (a it : Addr) : Turn P w K tg (Itt K a) [it] it (fun i h => h.IsTupleIter it a i) where
  mem := by simp
  obj := fun i h st b hb => by
    have e : b = it := by simpa using hb
    subst e
    obtain ⟨o, e, c, d⟩ := st
    exact ⟨o, e, fun v z => by rw [d] at z; cases z⟩
  keep := fun i h h' st k => st.at fun o e => k it (by simp) o e
  item := by
    intro X hP hw hK hc i pins s σ H E I hf st hg
    subst hP hw hK
    obtain ⟨xs, x, hq, hx⟩ := hg
    obtain ⟨its, rv, p, hz⟩ := I.tuple hq
    obtain ⟨u, hu, ru⟩ := rv.get hx
    obtain ⟨f0, f1, f2, f3, f4, f5⟩ := hf it (by simp)
    refine wpAny_pyNext_tuple_item st (show s.heap.IsTuple a its.toArray from p) (x := u) (by simpa using hu) fun h' st' sb => ?_
    have I1 : Inv X pins σ H { s with heap := h' } := I.turned (t' := s.toks) (fun b o hb e => (sb.2 b hb).trans e) f0 f1 f3 f4 f5
    obtain ⟨o, e, c, d⟩ := id st'
    exact ⟨u, rfl, go_of (s := { s with heap := h' }) e c d (by decide) ⟨x, H, I1, ru, ⟨rfl, fun ys hy => by rw [I.tuple_inj hy hq]; exact hx⟩, st', fun b hb => (hf b hb).1⟩⟩
  done := by
    intro X hP hw hK hc i pins s σ H E I hf st hg
    subst hP hw hK
    obtain ⟨xs, hq, hx⟩ := hg
    obtain ⟨its, rv, p, hz⟩ := I.tuple hq
    obtain ⟨f0, f1, f2, f3, f4, f5⟩ := hf it (by simp)
    have hl := rv.length
    exact wpAny_pyNext_tuple_end (I.ok.hd hc) st (show s.heap.IsTuple a its.toArray from p) (by simp; omega) fun h' eb => ⟨rfl, I.turned (t' := s.toks) (fun b o hb e => eb b o hb e) f0 f1 f3 f4 f5⟩
  self := fun _ _ _ _ _ st h => wpAny_pyIter_tupleiter st h
theorem turn_range {P : Program} {w : World} {K : PySem.W.Frag} {tg : Expr} (it : Addr) (lo : Int) (n : Nat) : Turn P w K tg (Itr lo n) [it] it (fun i h => IsRangeIter h it (lo + (i : Nat) * 1) ((n : Int) - (i : Nat)) 1) where
  mem := by simp
  obj := fun i h st b hb => by
    have e : b = it := by simpa using hb
    subst e
    exact ⟨_, st, fun v z => by
      have z' : Data.fields _ = Data.cell v := z
      cases z'⟩
  keep := fun i h h' st k => k it (by simp) _ st
  item := by
    intro X hP hw hK hc i pins s σ H E I hf st hg
    subst hP hw hK
    obtain ⟨f0, f1, f2, f3, f4, f5⟩ := hf it (by simp)
    have W := Walks.range (prog := X.prog) (w := X.w) (I.ok.hd hc) it lo 1 n
    refine W.item i s _ _ hg st fun v h' tk hv st' kk => ?_
    obtain ⟨t, rfl⟩ := hv
    have I1 : Inv X pins σ H { s with heap := h', toks := tk } := I.turned (fun b o hb e => kk b o (by simpa using hb) e) f0 f1 f3 f4 f5
    refine ⟨_, rfl, go_of (s := { s with heap := h', toks := tk }) (n := "range_iterator") st' rfl rfl (by decide) ⟨.int (lo + i), H, I1, ⟨t, ?_⟩, ⟨rfl, rfl⟩, st', fun b hb => (hf b hb).1⟩⟩
    rw [Int.mul_one]
  done := by
    intro X hP hw hK hc i pins s σ H E I hf st hg
    subst hP hw hK
    obtain ⟨f0, f1, f2, f3, f4, f5⟩ := hf it (by simp)
    exact wpAny_pyNext_range_end (I.ok.hd hc) st (by have : n ≤ i := hg; omega) fun h' eb => ⟨rfl, I.turned (t' := s.toks) (fun b o hb e => eb b o hb e) f0 f1 f3 f4 f5⟩
  self := fun _ _ _ _ _ st h => wpAny_pyIter_rangeiter st h
end L2

namespace L2
open PySem PySem.Spec PyProof.Rows
section
variable {X : Cx} {tg : Expr}
def iList (K : PySem.W.Frag) (tl : TE) : TI := fun σ H R => tl σ H fun x H1 => ∃ a, x = .ref a ∧ (∃ xs, SqL K H1 a xs) ∧ R (Itl K a) H1
def iTup (K : PySem.W.Frag) (tl : TE) : TI := fun σ H R => tl σ H fun x H1 => ∃ a, x = .ref a ∧ (∃ xs, SqT K H1 a xs) ∧ R (Itt K a) H1
theorem pi_list {l : Expr} {tl : TE} (hl : PE X l tl) : PI X tg l (iList X.K tl) := by
  intro pins s σ H R I h
  refine thn (hl pins s σ H _ I h) fun v s1 ⟨x, H1, I1, r1, q1⟩ => ?_
  obtain ⟨a, e, ⟨xs, hq⟩, q⟩ := q1
  subst e
  cases r1
  obtain ⟨its, rv, p, hz⟩ := I1.list hq
  refine wpAny_pyIter_list p.isList ?_
  refine ⟨s1.heap.objs.size, [s1.heap.objs.size], _, _, H1, rfl, I1.kept (t' := s1.toks) fun b o e => Heap.get?_push_of_some _ e, turn_list a _, ⟨_, Heap.get?_push_size _ rfl, rfl, rfl⟩, fun b hb => ?_, q⟩
  have e : b = s1.heap.objs.size := by simpa using hb
  subst e
  exact I1.fpOk (Nat.le_refl _) (I1.hok.fresh (Nat.le_refl _))
theorem pi_tup {l : Expr} {tl : TE} (hl : PE X l tl) : PI X tg l (iTup X.K tl) := by
  intro pins s σ H R I h
  refine thn (hl pins s σ H _ I h) fun v s1 ⟨x, H1, I1, r1, q1⟩ => ?_
  obtain ⟨a, e, ⟨xs, hq⟩, q⟩ := q1
  subst e
  cases r1
  obtain ⟨its, rv, p, hz⟩ := I1.tuple hq
  refine wpAny_pyIter_tuple (show s1.heap.IsTuple a its.toArray from p) ?_
  refine ⟨s1.heap.objs.size, [s1.heap.objs.size], _, _, H1, rfl, I1.kept (t' := s1.toks) fun b o e => Heap.get?_push_of_some _ e, turn_tuple a _, ⟨_, Heap.get?_push_size _ rfl, rfl, rfl⟩, fun b hb => ?_, q⟩
  have e : b = s1.heap.objs.size := by simpa using hb
  subst e
  exact I1.fpOk (Nat.le_refl _) (I1.hok.fresh (Nat.le_refl _))
theorem range_it {pins : List (Addr × Obj)} {σ : St} {H : Hp} {s : Shared} {R : It → Hp → Prop} {E : Value → Shared → Prop} {lo hi : Int} {t u v : Tok} {tk : Nat} (I : Inv X pins σ H s) (h1 : -(2 ^ 62) ≤ lo) (h2 : lo < 2 ^ 62) (h3 : -(2 ^ 62) ≤ hi) (h4 : hi < 2 ^ 62)
    (q : R (Itr lo (hi - lo).toNat) H) : wpAny (model X.prog X.w) X.A (pyIter (.ref s.heap.objs.size)) (PIE X pins σ tg R) E { s with heap := s.heap.push { cls := .type "range", data := .fields #[.int lo t, .int hi u, .int 1 v] }, toks := tk } := by
  refine wpAny_pyIter_range (IsRange.new ..) (small_one h1 h2 h3 h4) ?_
  have I1 : Inv X pins σ H { s with heap := s.heap.push { cls := .type "range", data := .fields #[.int lo t, .int hi u, .int 1 v] }, toks := tk } := I.kept fun b o e => Heap.get?_push_of_some _ e
  refine ⟨(s.heap.push { cls := .type "range", data := .fields #[.int lo t, .int hi u, .int 1 v] }).objs.size, [(s.heap.push { cls := .type "range", data := .fields #[.int lo t, .int hi u, .int 1 v] }).objs.size], _, _, H, rfl,
    I1.kept (t' := tk) fun b o e => Heap.get?_push_of_some _ e, turn_range _ lo (hi - lo).toNat, ?_, fun b hb => ?_, q⟩
  · have e1 : lo + ((0 : Nat) : Int) * 1 = lo := by simp
    have e2 : (((hi - lo).toNat : Nat) : Int) - ((0 : Nat) : Int) = Builtin.Range.rangeSize lo hi 1 := by rw [rangeSize_one]; split <;> omega
    show IsRangeIter _ _ (lo + ((0 : Nat) : Int) * 1) ((((hi - lo).toNat : Nat) : Int) - ((0 : Nat) : Int)) 1
    rw [e1, e2]
    exact Heap.get?_push_size _ rfl
  · have e : b = (s.heap.push { cls := .type "range", data := .fields #[.int lo t, .int hi u, .int 1 v] }).objs.size := by simpa using hb
    subst e
    exact I1.fpOk (Nat.le_refl _) (I1.hok.fresh (Nat.le_refl _))
def iRng1 (ta : TA) : TI := fun σ H R => ta σ H fun vs H1 => ∃ j : Int, vs = [.int j] ∧ -(2 ^ 62) ≤ j ∧ j < 2 ^ 62 ∧ R (Itr 0 j.toNat) H1
def iRng2 (ta : TA) : TI := fun σ H R => ta σ H fun vs H1 => ∃ i j : Int, vs = [.int i, .int j] ∧ (-(2 ^ 62) ≤ i ∧ i < 2 ^ 62 ∧ -(2 ^ 62) ≤ j ∧ j < 2 ^ 62) ∧ R (Itr i (j - i).toNat) H1
theorem pi_range1 {a : Expr} {ta : TA} {p pos : Pos} (hg : Gl X "range") (hm : X.mg "range" = none) (ha : PA X [a] ta) (hs : starEach [a] X.env = [(false, eval a X.env)] := by rfl) : PI X tg (.Call (.Name "range" p) [a] [] pos) (iRng1 ta) := by
  intro pins s σ H R I h
  refine Call_ (ld_blt I hg hm boot_range (PyProof.Rows.callWith_type1 (thn (ha pos pins s σ H _ I h) fun us s1 ⟨vs, H1, I1, r1, q1⟩ => ?_) hs rfl))
  obtain ⟨j, e, q1, q2, q⟩ := q1
  subst e
  cases r1 with
  | cons r rr =>
    cases rr
    obtain ⟨t, rfl⟩ := r
    exact call_range_1 (range_it I1 (by omega) (by omega) q1 q2 (by simpa using q))
theorem pi_range2 {a b : Expr} {ta : TA} {p pos : Pos} (hg : Gl X "range") (hm : X.mg "range" = none) (ha : PA X [a, b] ta) (hs : starEach [a, b] X.env = [(false, eval a X.env), (false, eval b X.env)] := by rfl) (hs2 : starEach [b] X.env = [(false, eval b X.env)] := by rfl) :
    PI X tg (.Call (.Name "range" p) [a, b] [] pos) (iRng2 ta) := by
  intro pins s σ H R I h
  refine Call_ (ld_blt I hg hm boot_range (PyProof.Rows.callWith_type1 (thn (ha pos pins s σ H _ I h) fun us s1 ⟨vs, H1, I1, r1, q1⟩ => ?_) (by rw [hs, hs2]) (by rw [hs2]; rfl)))
  obtain ⟨i, j, e, ⟨q1, q2, q3, q4⟩, q⟩ := q1
  subst e
  cases r1 with
  | cons r rr =>
    cases rr with
    | cons r' rr =>
      cases rr
      obtain ⟨t, rfl⟩ := r
      obtain ⟨t', rfl⟩ := r'
      exact call_range_2 (range_it I1 q1 q2 q3 q4 q)
def tFor (wi : TI) (g : TG) (tb : TS) : TS := fun D σ H => wi σ H fun J H1 => ∃ W : Nat → Nat → St → Hp → Prop, (∃ m, W 0 m σ H1) ∧ ∀ i m σ H, W i m σ H →
  (J.stop i H ∧ D.nx σ H) ∨ (J.go i H ∧ ∃ N : St → Hp → Prop, (∀ σ' H', N σ' H' → ∃ m', m' < m ∧ W (i + 1) m' σ' H') ∧ ∀ x H', J.yld i H x H' → g x σ H' fun σ2 H2 => tb { D with nx := N, ct := N, bk := D.nx } σ2 H2)
def pinsAt (fp : List Addr) (h : Heap) : List (Addr × Obj) := fp.filterMap fun b => (h.get? b).map fun o => (b, o)
theorem mem_pinsAt {fp : List Addr} {h : Heap} {b : Addr} {o : Obj} (hb : b ∈ fp) (e : h.get? b = some o) : (b, o) ∈ pinsAt fp h := List.mem_filterMap.mpr ⟨b, hb, by rw [e]; rfl⟩
theorem of_pinsAt {fp : List Addr} {h : Heap} {p : Addr × Obj} (hp : p ∈ pinsAt fp h) : p.1 ∈ fp ∧ h.get? p.1 = some p.2 := by
  obtain ⟨b, hb, e⟩ := List.mem_filterMap.mp hp
  cases q : h.get? b with
  | none => rw [q] at e; cases e
  | some o =>
    rw [q] at e
    have e' : (b, o) = p := Option.some.inj e
    subst e'
    exact ⟨hb, q⟩
theorem Inv.pinned {pins : List (Addr × Obj)} {σ : St} {H : Hp} {s : Shared} {fp : List Addr} (I : Inv X pins σ H s) (hf : ∀ b ∈ fp, FpOk X pins H b) (ho : ∀ b ∈ fp, ∃ o, s.heap.get? b = some o ∧ ∀ v, o.data ≠ .cell v) : Inv X (pins ++ pinsAt fp s.heap) σ H s :=
  I.pins_of fun p hp => (List.mem_append.mp hp).elim (fun z => I.pin p (List.mem_append_right _ z)) fun z => by
    obtain ⟨hb, e⟩ := of_pinsAt z
    obtain ⟨f0, f1, f2, _⟩ := hf p.1 hb
    obtain ⟨o, e', d⟩ := ho p.1 hb
    rw [e] at e'; cases e'
    exact ⟨e, f0, f1, f2, d⟩
theorem Inv.unpinned {pins pl : List (Addr × Obj)} {σ : St} {H : Hp} {s : Shared} (I : Inv X (pins ++ pl) σ H s) : Inv X pins σ H s := I.pins_of fun p hp => I.pin p (List.mem_append_right _ (List.mem_append_left _ hp))
theorem ps_for {iter : Expr} {body : List Stmt} {wi : TI} {g : TG} {tb : TS} {pos : Pos} (hp : PassesOwn (model X.prog X.w) X.A X.env X.xe) (hc : X.calm = true) (hi : PI X tg iter wi) (hg : PG X tg g) (hb : PSs X body tb)
    (hs : ∀ x, foldedSetIterable iter X.env x = pure x := by intro _; rfl) : PS X (.For tg iter body [] pos) (tFor wi g tb) := by
  intro pins s σ H D I h
  refine wpAny_For (thn (hi pins s σ H _ I h) fun v s1 h1 => thn h1 fun itv s2 h2 => ?_) hs
  obtain ⟨it, fp, tn, J, H2, e, I2, T, st2, f2, W, ⟨m0, w0⟩, turn⟩ := h2
  subst e
  have stat : ∀ {H' : Hp}, (∀ b ∈ fp, H' b = none) → ∀ b ∈ fp, FpOk X pins H' b := fun hn b hb => ⟨hn b hb, (f2 b hb).2⟩
  refine codeAny_forLoop_any (fun n s' => ∃ i σ' H', Inv X pins σ' H' s' ∧ tn i s'.heap ∧ (∀ b ∈ fp, H' b = none) ∧ W i n σ' H') ?_ m0 ⟨0, σ, H2, I2, st2, fun b hb => (f2 b hb).1, w0⟩
  rintro n s3 ⟨i, σ3, H3, I3, st3, fr3, w3⟩
  rcases turn i n σ3 H3 w3 with ⟨stop, qn⟩ | ⟨go, N, hN, step⟩
  · refine wpAny_passesOwn hp (thn (T.done X rfl rfl rfl hc i pins s3 σ3 H3 X.xe I3 (stat fr3) st3 stop) fun r s4 ⟨hr, I4⟩ => ?_)
    subst hr
    exact wpAny_execs_nil ⟨σ3, H3, I4, qn⟩
  · refine wpAny_passesOwn hp (thn (T.item X rfl rfl rfl hc i pins s3 σ3 H3 X.xe I3 (stat fr3) st3 go) fun r s4 ⟨u, hr, h4⟩ => ?_)
    subst hr
    refine wpAny_passesOwn hp (thn h4 fun _ s5 ⟨x, H5, I5, r5, y5, st5, fr5⟩ => ?_)
    have I5' := I5.pinned (stat fr5) (T.obj _ _ st5)
    refine wpAny_passesOwn hp (thn (hg _ s5 σ3 H5 x u _ I5' r5 (step x H5 y5)) fun _ s6 ⟨σ6, H6, I6, q6⟩ => ?_)
    refine wpAny_passesOwn hp (thn (hb _ s6 σ6 H6 _ I6 q6) fun f s7 q7 => ?_)
    have again : ∀ {σ7 : St} {H7 : Hp}, Inv X (pins ++ pinsAt fp s5.heap) σ7 H7 s7 → N σ7 H7 → ∃ m, m < n ∧ ∃ i σ' H', Inv X pins σ' H' s7 ∧ tn i s7.heap ∧ (∀ b ∈ fp, H' b = none) ∧ W i m σ' H' := fun {σ7 H7} I7 n7 => by
      obtain ⟨m', hm, w7⟩ := hN σ7 H7 n7
      refine ⟨m', hm, i + 1, σ7, H7, I7.unpinned, T.keep _ _ _ st5 fun b hb o e => (I7.pin (b, o) (List.mem_append_right _ (List.mem_append_right _ (mem_pinsAt hb e)))).1, fun b hb => ?_, w7⟩
      obtain ⟨o, e, d⟩ := T.obj _ _ st5 b hb
      exact (I7.pin (b, o) (List.mem_append_right _ (List.mem_append_right _ (mem_pinsAt hb e)))).2.1
    cases f with
    | next => obtain ⟨σ7, H7, I7, n7⟩ := q7; exact again I7 n7
    | cont => obtain ⟨σ7, H7, I7, n7⟩ := q7; exact again I7 n7
    | brk => obtain ⟨σ7, H7, I7, q7⟩ := q7; exact ⟨σ7, H7, I7.unpinned, q7⟩
    | ret v => obtain ⟨x7, σ7, H7, I7, r7, q7⟩ := q7; exact ⟨x7, σ7, H7, I7.unpinned, r7, q7⟩
end
theorem for_list {K : PySem.W.Frag} {a : Addr} {xs : List V} {g : TG} {tb : TS} {D : Ends} {σ : St} {H : Hp} (Pv : Nat → St → Hp → Prop) (h0 : Pv 0 σ H) (hl : ∀ i σ H, i ≤ xs.length → Pv i σ H → SqL K H a xs)
    (hs : ∀ i x σ H, xs[i]? = some x → Pv i σ H → g x σ H fun σ2 H2 => tb { D with nx := Pv (i + 1), ct := Pv (i + 1), bk := D.nx } σ2 H2) (hd : ∀ σ H, Pv xs.length σ H → D.nx σ H) :
    ∃ W : Nat → Nat → St → Hp → Prop, (∃ m, W 0 m σ H) ∧ ∀ i m σ H, W i m σ H →
      ((Itl K a).stop i H ∧ D.nx σ H) ∨ ((Itl K a).go i H ∧ ∃ N : St → Hp → Prop, (∀ σ' H', N σ' H' → ∃ m', m' < m ∧ W (i + 1) m' σ' H') ∧ ∀ x H', (Itl K a).yld i H x H' → g x σ H' fun σ2 H2 => tb { D with nx := N, ct := N, bk := D.nx } σ2 H2) := by
  refine ⟨fun i m σ H => m = xs.length - i ∧ i ≤ xs.length ∧ Pv i σ H, ⟨xs.length, by simp, Nat.zero_le _, h0⟩, ?_⟩
  rintro i m σ H ⟨rfl, hi, p⟩
  have q := hl i σ H hi p
  by_cases hlt : i < xs.length
  · refine .inr ⟨⟨xs, xs[i], q, by simp [hlt]⟩, Pv (i + 1), fun σ' H' p' => ⟨xs.length - (i + 1), by omega, rfl, hlt, p'⟩, fun x H' y => ?_⟩
    obtain ⟨e, y⟩ := y
    subst e
    exact hs i x σ _ (y xs q) p
  · have e : i = xs.length := by omega
    subst e
    exact .inl ⟨⟨xs, q, Nat.le_refl _⟩, hd σ H p⟩
theorem for_tup {K : PySem.W.Frag} {a : Addr} {xs : List V} {g : TG} {tb : TS} {D : Ends} {σ : St} {H : Hp} (Pv : Nat → St → Hp → Prop) (h0 : Pv 0 σ H) (hl : ∀ i σ H, i ≤ xs.length → Pv i σ H → SqT K H a xs)
    (hs : ∀ i x σ H, xs[i]? = some x → Pv i σ H → g x σ H fun σ2 H2 => tb { D with nx := Pv (i + 1), ct := Pv (i + 1), bk := D.nx } σ2 H2) (hd : ∀ σ H, Pv xs.length σ H → D.nx σ H) :
    ∃ W : Nat → Nat → St → Hp → Prop, (∃ m, W 0 m σ H) ∧ ∀ i m σ H, W i m σ H →
      ((Itt K a).stop i H ∧ D.nx σ H) ∨ ((Itt K a).go i H ∧ ∃ N : St → Hp → Prop, (∀ σ' H', N σ' H' → ∃ m', m' < m ∧ W (i + 1) m' σ' H') ∧ ∀ x H', (Itt K a).yld i H x H' → g x σ H' fun σ2 H2 => tb { D with nx := N, ct := N, bk := D.nx } σ2 H2) := by
  refine ⟨fun i m σ H => m = xs.length - i ∧ i ≤ xs.length ∧ Pv i σ H, ⟨xs.length, by simp, Nat.zero_le _, h0⟩, ?_⟩
  rintro i m σ H ⟨rfl, hi, p⟩
  have q := hl i σ H hi p
  by_cases hlt : i < xs.length
  · refine .inr ⟨⟨xs, xs[i], q, by simp [hlt]⟩, Pv (i + 1), fun σ' H' p' => ⟨xs.length - (i + 1), by omega, rfl, hlt, p'⟩, fun x H' y => ?_⟩
    obtain ⟨e, y⟩ := y
    subst e
    exact hs i x σ _ (y xs q) p
  · have e : i = xs.length := by omega
    subst e
    exact .inl ⟨⟨xs, q, Nat.le_refl _⟩, hd σ H p⟩
theorem for_range {lo : Int} {n : Nat} {g : TG} {tb : TS} {D : Ends} {σ : St} {H : Hp} (Pv : Nat → St → Hp → Prop) (h0 : Pv 0 σ H)
    (hs : ∀ i σ H, i < n → Pv i σ H → g (.int (lo + i)) σ H fun σ2 H2 => tb { D with nx := Pv (i + 1), ct := Pv (i + 1), bk := D.nx } σ2 H2) (hd : ∀ σ H, Pv n σ H → D.nx σ H) :
    ∃ W : Nat → Nat → St → Hp → Prop, (∃ m, W 0 m σ H) ∧ ∀ i m σ H, W i m σ H →
      ((Itr lo n).stop i H ∧ D.nx σ H) ∨ ((Itr lo n).go i H ∧ ∃ N : St → Hp → Prop, (∀ σ' H', N σ' H' → ∃ m', m' < m ∧ W (i + 1) m' σ' H') ∧ ∀ x H', (Itr lo n).yld i H x H' → g x σ H' fun σ2 H2 => tb { D with nx := N, ct := N, bk := D.nx } σ2 H2) := by
  refine ⟨fun i m σ H => m = n - i ∧ i ≤ n ∧ Pv i σ H, ⟨n, by simp, Nat.zero_le _, h0⟩, ?_⟩
  rintro i m σ H ⟨rfl, hi, p⟩
  by_cases hlt : i < n
  · refine .inr ⟨hlt, Pv (i + 1), fun σ' H' p' => ⟨n - (i + 1), by omega, rfl, hlt, p'⟩, fun x H' y => ?_⟩
    obtain ⟨e, y⟩ := y
    subst e y
    exact hs i σ _ hlt p
  · have e : i = n := by omega
    subst e
    exact .inl ⟨Nat.le_refl _, hd σ H p⟩
end L2

namespace L2
open PySem PySem.Spec PyProof.Rows

abbrev R2 := V → V → Hp → VK → Prop
def OpR (X : Cx) (f : Value → Value → Sem Value) (r : R2) : Prop :=
  ∀ (pins : List (Addr × Obj)) (s : Shared) (σ : St) (H : Hp) (x y : V) (v u : Value) (Q : VK), Inv X pins σ H s → RelV x v → RelV y u → r x y H Q →
    wpAny (model X.prog X.w) X.A (f v u) (EP X pins σ Q) X.xe s
def UnR (X : Cx) (f : Value → Sem Value) (r : V → Hp → VK → Prop) : Prop :=
  ∀ (pins : List (Addr × Obj)) (s : Shared) (σ : St) (H : Hp) (x : V) (v : Value) (Q : VK), Inv X pins σ H s → RelV x v → r x H Q →
    wpAny (model X.prog X.w) X.A (f v) (EP X pins σ Q) X.xe s
def CallR (X : Cx) (f : Value) (r : List V → Hp → VK → Prop) : Prop :=
  ∀ (pins : List (Addr × Obj)) (s : Shared) (σ : St) (H : Hp) (xs : List V) (us : List Value) (Q : VK), Inv X pins σ H s → Vals xs us → r xs H Q →
    wpAny (model X.prog X.w) X.A (call f us) (EP X pins σ Q) X.xe s
def TruR (X : Cx) (r : V → Hp → (Bool → Hp → Prop) → Prop) : Prop :=
  ∀ (pins : List (Addr × Obj)) (s : Shared) (σ : St) (H : Hp) (x : V) (v : Value) (Q : Bool → Hp → Prop), Inv X pins σ H s → RelV x v → r x H Q →
    wpAny (model X.prog X.w) X.A (truthy v) (TP X pins σ Q) X.xe s

def tOp (r : R2) (ta tb : TE) : TE := fun σ H Q => ta σ H fun x H1 => tb σ H1 fun y H2 => r x y H2 Q
def tUn (r : V → Hp → VK → Prop) (ta : TE) : TE := fun σ H Q => ta σ H fun x H1 => r x H1 Q
def rI (C : Int → Int → Prop) (g : Int → Int → V) : R2 := fun x y H Q => ∃ i j, x = .int i ∧ y = .int j ∧ C i j ∧ Q (g i j) H
def rI0 (g : Int → Int → V) : R2 := fun x y H Q => ∃ i j, x = .int i ∧ y = .int j ∧ Q (g i j) H
def rU (g : Int → V) : V → Hp → VK → Prop := fun x H Q => ∃ i, x = .int i ∧ Q (g i) H

section
variable {X : Cx} {a b c : Expr} {ta tb tc : TE} {pos : Pos}

theorem binT (ha : PE X a ta) (hb : PE X b tb) {pins : List (Addr × Obj)} {s : Shared} {σ : St} {H : Hp} {R : V → V → Hp → Prop} (I : Inv X pins σ H s)
    (h : ta σ H fun x H1 => tb σ H1 fun y H2 => R x y H2) {Q : Value → Shared → Prop} {f : Value → Value → Sem Value}
    (hf : ∀ v u s2 x y H2, Inv X pins σ H2 s2 → RelV x v → RelV y u → R x y H2 → wpAny (model X.prog X.w) X.A (f v u) Q X.xe s2) :
    wpAny (model X.prog X.w) X.A (eval a X.env) (fun v s₁ => wpAny (model X.prog X.w) X.A (eval b X.env) (fun u s₂ => wpAny (model X.prog X.w) X.A (f v u) Q X.xe s₂) X.xe s₁) X.xe s := by
  refine thn (ha pins s σ H _ I h) fun v s1 ⟨x, H1, I1, r1, q1⟩ => ?_
  refine thn (hb pins s1 σ H1 _ I1 q1) fun u s2 ⟨y, H2, I2, r2, q2⟩ => ?_
  exact hf v u s2 x y H2 I2 r1 r2 q2

theorem pe_op {op : Operator} {r : R2} (ho : OpR X (binaryOp op) r) (ha : PE X a ta) (hb : PE X b tb) : PE X (.BinOp a op b pos) (tOp r ta tb) := by
  intro pins s σ H Q I h
  exact wpAny_BinOp (binT ha hb I h fun v u s2 x y H2 I2 rx ry q => ho pins s2 σ H2 x y v u Q I2 rx ry q)
theorem pe_un {op : UnaryOp} {r : V → Hp → VK → Prop} (ho : UnR X (unaryOp op) r) (ha : PE X a ta) : PE X (.UnaryOp op a pos) (tUn r ta) := by
  intro pins s σ H Q I h
  exact UnaryOp_ (thn (ha pins s σ H _ I h) fun v s1 ⟨x, H1, I1, r1, q1⟩ => ho pins s1 σ H1 x v Q I1 r1 q1)
theorem opI {f : Value → Value → Sem Value} {C : Int → Int → Prop} {g : Int → Int → Int}
    (rule : ∀ (i j : Int) (t u : Tok) (s : Shared) (Q : Value → Shared → Prop) (E : Value → Shared → Prop), C i j → Q (.int (g i j) s.toks) { s with toks := s.toks + 1 } → wpAny (model X.prog X.w) X.A (f (.int i t) (.int j u)) Q E s) :
    OpR X f (rI C fun i j => .int (g i j)) := by
  intro pins s σ H x y v u Q I rx ry h
  obtain ⟨i, j, rfl, rfl, hc, q⟩ := h
  obtain ⟨t, rfl⟩ := rx
  obtain ⟨t', rfl⟩ := ry
  exact rule i j t t' s _ _ hc ⟨.int (g i j), H, I.tok _, ⟨_, rfl⟩, q⟩
theorem opI0 {f : Value → Value → Sem Value} {g : Int → Int → Int}
    (rule : ∀ (i j : Int) (t u : Tok) (s : Shared) (Q : Value → Shared → Prop) (E : Value → Shared → Prop), Q (.int (g i j) s.toks) { s with toks := s.toks + 1 } → wpAny (model X.prog X.w) X.A (f (.int i t) (.int j u)) Q E s) :
    OpR X f (rI0 fun i j => .int (g i j)) := by
  intro pins s σ H x y v u Q I rx ry h
  obtain ⟨i, j, rfl, rfl, q⟩ := h
  obtain ⟨t, rfl⟩ := rx
  obtain ⟨t', rfl⟩ := ry
  exact rule i j t t' s _ _ ⟨.int (g i j), H, I.tok _, ⟨_, rfl⟩, q⟩
theorem opB0 {f : Value → Value → Sem Value} {g : Int → Int → Bool}
    (rule : ∀ (i j : Int) (t u : Tok) (s : Shared) (Q : Value → Shared → Prop) (E : Value → Shared → Prop), Q (.bool (g i j)) s → wpAny (model X.prog X.w) X.A (f (.int i t) (.int j u)) Q E s) :
    OpR X f (rI0 fun i j => .bl (g i j)) := by
  intro pins s σ H x y v u Q I rx ry h
  obtain ⟨i, j, rfl, rfl, q⟩ := h
  obtain ⟨t, rfl⟩ := rx
  obtain ⟨t', rfl⟩ := ry
  exact rule i j t t' s _ _ ⟨.bl (g i j), H, I, rfl, q⟩

def CDiv (i j : Int) : Prop := 0 < j ∧ j < 1073741824
def CPow (i j : Int) : Prop := 0 ≤ j ∧ j ≤ 1000000 ∧ i.natAbs < 2 ^ 64
def CMul (i j : Int) : Prop := (-(2 ^ 64) < i ∧ i < 2 ^ 64) ∨ (-(2 ^ 64) < j ∧ j < 2 ^ 64)
theorem CMul.ok {i j : Int} (h : CMul i j) : IntMulOk i j := by
  rcases h with ⟨h1, h2⟩ | ⟨h1, h2⟩
  · exact .of_left (intBits_le_64 h1 h2)
  · exact .of_right (intBits_le_64 h1 h2)
theorem op_add : OpR X (binaryOp .Add) (rI0 fun i j => .int (i + j)) := opI0 fun _ _ _ _ _ _ _ q => add_int q
theorem op_sub : OpR X (binaryOp .Sub) (rI0 fun i j => .int (i - j)) := opI0 fun _ _ _ _ _ _ _ q => sub_int q
theorem op_mul : OpR X (binaryOp .Mult) (rI CMul fun i j => .int (i * j)) := opI fun _ _ _ _ _ _ _ hc q => mul_int q hc.ok
theorem op_fdiv : OpR X (binaryOp .FloorDiv) (rI CDiv fun i j => .int (i / j)) := opI fun i j _ _ _ _ _ hc q => by
  have h1 : (0 : Int) < j := hc.1
  have h2 : j < 1073741824 := hc.2
  exact floordiv_int (by omega) (by rw [Int.fdiv_eq_ediv_of_nonneg i (by omega)]; exact q) (.inl (PyProof.noPylong_small (by omega)))
theorem op_mod : OpR X (binaryOp .Mod) (rI (fun _ j => 0 < j) fun i j => .int (i % j)) := opI fun i j _ _ _ _ _ hc q => by
  have h1 : (0 : Int) < j := hc
  exact mod_int' (by omega) (by rw [Int.fmod_eq_emod_of_nonneg i (by omega)]; exact q)
theorem op_pow : OpR X (binaryOp .Pow) (rI CPow fun i j => .int (i ^ j.toNat)) := opI fun _ _ _ _ _ _ _ hc q => pow_int_small hc.1 hc.2.1 hc.2.2 q
theorem iop_mul : OpR X (inplaceOp .Mult) (rI CMul fun i j => .int (i * j)) := opI fun _ _ _ _ _ _ _ hc q => imul_int q hc.ok
theorem unI {f : Value → Sem Value} {g : Int → Int}
    (rule : ∀ (i : Int) (t : Tok) (s : Shared) (Q : Value → Shared → Prop) (E : Value → Shared → Prop), Q (.int (g i) s.toks) { s with toks := s.toks + 1 } → wpAny (model X.prog X.w) X.A (f (.int i t)) Q E s) :
    UnR X f (rU fun i => .int (g i)) := by
  intro pins s σ H x v Q I rx h
  obtain ⟨i, rfl, q⟩ := h
  obtain ⟨t, rfl⟩ := rx
  exact rule i t s _ _ ⟨.int (g i), H, I.tok _, ⟨_, rfl⟩, q⟩
theorem un_neg : UnR X (unaryOp .USub) (rU fun i => .int (-i)) := unI fun _ _ _ _ _ q => neg_int q
end
def scal : V → V → Bool
  | .non, .non => true | .non, .int _ => true | .int _, .non => true | .non, .bl _ => true | .bl _, .non => true | .non, .str _ => true | .str _, .non => true
  | .int _, .int _ => true | .bl _, .bl _ => true | .str _, .str _ => true | .byt _, .byt _ => true
  | .int _, .str _ => true | .str _, .int _ => true | .bl _, .str _ => true | .str _, .bl _ => true
  | _, _ => false
def rEq : R2 := fun x y H Q => scal x y = true ∧ Q (.bl (decide (x = y))) H
def rNe : R2 := fun x y H Q => scal x y = true ∧ Q (.bl (!decide (x = y))) H

theorem dec_int {i j : Int} : decide (V.int i = V.int j) = (i == j) := by
  rw [Bool.eq_iff_iff]
  simp
theorem dec_bl {i j : Bool} : decide (V.bl i = V.bl j) = (i == j) := by
  rw [Bool.eq_iff_iff]
  simp
theorem dec_str {i j : Str} : decide (V.str i = V.str j) = (i == j) := by
  rw [Bool.eq_iff_iff]
  simp
theorem dec_byt {i j : Array UInt8} : decide (V.byt i = V.byt j) = (i.toList == j.toList) := by
  rw [Bool.eq_iff_iff]
  cases i
  cases j
  simp

section
variable {X : Cx} {a b c : Expr} {ta tb tc : TE} {pos : Pos}
theorem fin_bl {pins : List (Addr × Obj)} {σ : St} {H : Hp} {s : Shared} {Q : VK} {k k' : Bool} (I : Inv X pins σ H s) (q : Q (.bl k) H) (e : k = k') : EP X pins σ Q (.bool k') s := by
  subst e
  exact ⟨.bl k, H, I, rfl, q⟩
theorem op_eq : OpR X (compareOp .Eq) rEq := by
  intro pins s σ H x y v u Q I rx ry h
  obtain ⟨hs, q⟩ := h
  cases x with
  | non =>
    cases rx
    cases y with
    | non => cases ry; exact PySem.EqNone.eq_none_none (fin_bl I q (by simp))
    | bl j => cases ry; exact PySem.EqNone.eq_none_bool (fin_bl I q (by simp))
    | int j => obtain ⟨t', rfl⟩ := ry; exact PySem.EqNone.eq_none_int (fin_bl I q (by simp))
    | str j => obtain ⟨t', rfl⟩ := ry; exact PySem.EqNone.eq_none_str (fin_bl I q (by simp))
    | _ => exact absurd (show false = true from hs) Bool.false_ne_true
  | bl i =>
    cases rx
    cases y with
    | non => cases ry; exact PySem.EqNone.eq_bool_none (fin_bl I q (by simp))
    | bl j => cases ry; exact eq_bool (fin_bl I q dec_bl)
    | str j => obtain ⟨t', rfl⟩ := ry; exact PySem.EqMixed.eq_bool_str (fin_bl I q (by simp))
    | _ => exact absurd (show false = true from hs) Bool.false_ne_true
  | int i =>
    obtain ⟨t, rfl⟩ := rx
    cases y with
    | non => cases ry; exact PySem.EqNone.eq_int_none (fin_bl I q (by simp))
    | int j => obtain ⟨t', rfl⟩ := ry; exact eq_int (fin_bl I q dec_int)
    | str j => obtain ⟨t', rfl⟩ := ry; exact PySem.EqMixed.eq_int_str (fin_bl I q (by simp))
    | _ => exact absurd (show false = true from hs) Bool.false_ne_true
  | str i =>
    obtain ⟨t, rfl⟩ := rx
    cases y with
    | non => cases ry; exact PySem.EqNone.eq_str_none (fin_bl I q (by simp))
    | bl j => cases ry; exact PySem.EqMixed.eq_str_bool (fin_bl I q (by simp))
    | int j => obtain ⟨t', rfl⟩ := ry; exact PySem.EqMixed.eq_str_int (fin_bl I q (by simp))
    | str j => obtain ⟨t', rfl⟩ := ry; exact eq_str (fin_bl I q dec_str)
    | _ => exact absurd (show false = true from hs) Bool.false_ne_true
  | byt i =>
    obtain ⟨t, rfl⟩ := rx
    cases y with
    | byt j => obtain ⟨t', rfl⟩ := ry; exact PySem.W.eq_bytes (fin_bl I q dec_byt)
    | _ => exact absurd (show false = true from hs) Bool.false_ne_true
  | _ => cases y <;> exact absurd (show false = true from hs) Bool.false_ne_true
theorem op_ne : OpR X (compareOp .NotEq) rNe := by
  intro pins s σ H x y v u Q I rx ry h
  obtain ⟨hs, q⟩ := h
  cases x with
  | non =>
    cases rx
    cases y with
    | non => cases ry; exact PySem.EqNone.ne_none_none (fin_bl I q (by simp))
    | bl j => cases ry; exact PySem.EqNone.ne_none_bool (fin_bl I q (by simp))
    | int j => obtain ⟨t', rfl⟩ := ry; exact PySem.EqNone.ne_none_int (fin_bl I q (by simp))
    | str j => obtain ⟨t', rfl⟩ := ry; exact PySem.EqNone.ne_none_str (fin_bl I q (by simp))
    | _ => exact absurd (show false = true from hs) Bool.false_ne_true
  | bl i =>
    cases rx
    cases y with
    | non => cases ry; exact PySem.EqNone.ne_bool_none (fin_bl I q (by simp))
    | bl j => cases ry; exact ne_bool (fin_bl I q (congrArg not dec_bl))
    | str j => obtain ⟨t', rfl⟩ := ry; exact PySem.EqMixed.ne_bool_str (fin_bl I q (by simp))
    | _ => exact absurd (show false = true from hs) Bool.false_ne_true
  | int i =>
    obtain ⟨t, rfl⟩ := rx
    cases y with
    | non => cases ry; exact PySem.EqNone.ne_int_none (fin_bl I q (by simp))
    | int j => obtain ⟨t', rfl⟩ := ry; exact ne_int (fin_bl I q (congrArg not dec_int))
    | str j => obtain ⟨t', rfl⟩ := ry; exact PySem.EqMixed.ne_int_str (fin_bl I q (by simp))
    | _ => exact absurd (show false = true from hs) Bool.false_ne_true
  | str i =>
    obtain ⟨t, rfl⟩ := rx
    cases y with
    | non => cases ry; exact PySem.EqNone.ne_str_none (fin_bl I q (by simp))
    | bl j => cases ry; exact PySem.EqMixed.ne_str_bool (fin_bl I q (by simp))
    | int j => obtain ⟨t', rfl⟩ := ry; exact PySem.EqMixed.ne_str_int (fin_bl I q (by simp))
    | str j => obtain ⟨t', rfl⟩ := ry; exact ne_str (fin_bl I q (congrArg not dec_str))
    | _ => exact absurd (show false = true from hs) Bool.false_ne_true
  | byt i =>
    obtain ⟨t, rfl⟩ := rx
    cases y with
    | byt j => obtain ⟨t', rfl⟩ := ry; exact PySem.W.ne_bytes (fin_bl I q (congrArg not dec_byt))
    | _ => exact absurd (show false = true from hs) Bool.false_ne_true
  | _ => cases y <;> exact absurd (show false = true from hs) Bool.false_ne_true

theorem op_lt : OpR X (compareOp .Lt) (rI0 fun i j => .bl (decide (i < j))) := opB0 fun _ _ _ _ _ _ _ q => lt_int q
theorem op_gt : OpR X (compareOp .Gt) (rI0 fun i j => .bl (decide (j < i))) := opB0 fun _ _ _ _ _ _ _ q => gt_int q
theorem op_ge : OpR X (compareOp .GtE) (rI0 fun i j => .bl (decide (j ≤ i))) := opB0 fun _ _ _ _ _ _ _ q => ge_int q
theorem op_isN : OpR X (compareOp .Is) (fun x y H Q => y = .non ∧ Q (.bl (decide (x = .non))) H) := by
  intro pins s σ H x y v u Q I rx ry h
  obtain ⟨rfl, q⟩ := h
  cases ry
  refine is_none_gen (fin_bl I q ?_)
  cases x <;> first
    | (cases rx; rfl)
    | (obtain ⟨t, rfl⟩ := rx; rfl)
theorem op_notN : OpR X (compareOp .IsNot) (fun x y H Q => y = .non ∧ Q (.bl (!decide (x = .non))) H) := by
  intro pins s σ H x y v u Q I rx ry h
  obtain ⟨rfl, q⟩ := h
  cases ry
  refine isnot_none_gen (fin_bl I q ?_)
  cases x <;> first
    | (cases rx; rfl)
    | (obtain ⟨t, rfl⟩ := rx; rfl)

theorem nomark (b : Expr) {op : CmpOp} (h : op ≠ .In := by decide) (h2 : op ≠ .NotIn := by decide) : behindInMarks op b = false := by
  have e1 : (op == CmpOp.In) = false := by cases op <;> first | rfl | exact absurd rfl h
  have e2 : (op == CmpOp.NotIn) = false := by cases op <;> first | rfl | exact absurd rfl h2
  cases b <;> simp [behindInMarks, e1, e2]
theorem pe_cmpR {op : CmpOp} {r : R2} (ho : OpR X (compareOp op) r) (ha : PE X a ta) (hb : PE X b tb) (hm : behindInMarks op b = false) : PE X (.Compare a [op] [b] pos) (tOp r ta tb) := by
  intro pins s σ H Q I h
  exact wpAny_Compare1 (binT ha hb I h fun v u s2 x y H2 I2 rx ry q => ho pins s2 σ H2 x y v u Q I2 rx ry q) hm
def tTest (t : TE) : TT := fun σ H Q => t σ H fun x H' => ∃ k, x = .bl k ∧ Q k H'
theorem pt_cmpR {op : CmpOp} {r : R2} (ho : OpR X (compareOp op) r) (ha : PE X a ta) (hb : PE X b tb) (hm : behindInMarks op b = false) : PT X (.Compare a [op] [b] pos) (tTest (tOp r ta tb)) := by
  intro pins s σ H Q I h
  refine wpAny_isTrue_Compare1 (thn (ha pins s σ H _ I h) fun v s1 ⟨x, H1, I1, r1, q1⟩ => thn (hb pins s1 σ H1 _ I1 q1) fun u s2 ⟨y, H2, I2, r2, q2⟩ =>
    thn (ho pins s2 σ H2 x y v u _ I2 r1 r2 q2) fun c s3 ⟨z, H3, I3, r3, k, e, q3⟩ => ?_) hm
  subst e
  cases r3
  exact wpAny_truthy_bool ⟨H3, I3, q3⟩
def TruV (K : PySem.W.Frag) (x : V) (H : Hp) (k : Bool) : Prop :=
  match x with
  | .non => k = false
  | .bl b => k = b
  | .int i => k = (i != 0)
  | .str y => y.length ≤ sizeLine ∧ k = ((y.length : Int) != 0)
  | .byt y => y.size ≤ sizeLine ∧ k = ((y.size : Int) != 0)
  | .ref p => (∃ xs, SqL K H p xs ∧ k = !xs.isEmpty) ∨ (∃ xs, SqT K H p xs ∧ k = !xs.isEmpty) ∨ ∃ kvs, H p = some (.dK kvs) ∧ k = !kvs.isEmpty
  | _ => False
theorem isEmpty_kv {κ : Type} {kvs : List (κ × V)} {vs : List (κ × Value)} (r : KV kvs vs) : (!vs.isEmpty) = !kvs.isEmpty := by
  cases r <;> rfl
theorem isEmpty_of {xs : List V} {its : List Value} (r : Vals xs its) : (!its.toArray.isEmpty) = !xs.isEmpty := by
  cases r <;> simp
theorem line63 : (sizeLine : Nat) < 2 ^ 63 := by rw [sizeLine_eq]; decide
theorem tru_ok : TruR X (fun x H Q => ∃ k, TruV X.K x H k ∧ Q k H) := by
  intro pins s σ H x v Q I rx h
  obtain ⟨k, e, q⟩ := h
  have hl := line63
  have hs : sizeLine = 16777216 := sizeLine_eq
  cases x with
  | non =>
    cases rx
    have e' : k = false := e
    subst e'
    exact truthy_none ⟨H, I, q⟩
  | bl b =>
    cases rx
    have e' : k = b := e
    subst e'
    exact wpAny_truthy_bool ⟨H, I, q⟩
  | int i =>
    obtain ⟨t, rfl⟩ := rx
    have e' : k = (i != 0) := e
    subst e'
    exact PySem.P.truthy_int ⟨H, I, q⟩
  | str y =>
    obtain ⟨t, rfl⟩ := rx
    obtain ⟨hy, e'⟩ : y.length ≤ sizeLine ∧ k = ((y.length : Int) != 0) := e
    subst e'
    exact PySem.P.truthy_str (by omega) ⟨H, I.tok _, q⟩
  | byt y =>
    obtain ⟨t, rfl⟩ := rx
    obtain ⟨hy, e'⟩ : y.size ≤ sizeLine ∧ k = ((y.size : Int) != 0) := e
    subst e'
    exact PySem.W.truthy_bytes (by omega) ⟨H, I.tok _, q⟩
  | ref p =>
    cases rx
    have e' : (∃ xs, SqL X.K H p xs ∧ k = !xs.isEmpty) ∨ (∃ xs, SqT X.K H p xs ∧ k = !xs.isEmpty) ∨ ∃ kvs, H p = some (.dK kvs) ∧ k = !kvs.isEmpty := e
    rcases e' with ⟨xs, hx, e'⟩ | ⟨xs, hx, e'⟩ | ⟨kvs, hx, e'⟩
    · subst e'
      obtain ⟨its, r, pl, hz⟩ := I.list hx
      have hlen := r.length
      exact wpAny_truthy_list pl.isList (by simp only [List.size_toArray]; omega) ⟨H, I.tok _, by rw [isEmpty_of r]; exact q⟩
    · subst e'
      obtain ⟨its, r, pl, hz⟩ := I.tuple hx
      have hlen := r.length
      exact truthy_tuple pl (by simp only [List.size_toArray]; omega) ⟨H, I.tok _, by rw [isEmpty_of r]; exact q⟩
    · subst e'
      obtain ⟨hz, hS, vs, r, m⟩ : kvs.length ≤ sizeLine ∧ (p == sysModules) = false ∧ ∃ vs, KV kvs vs ∧ s.heap.DictOf (mixKind X.prog X.w) p vs := I.hok p _ hx
      have hlen : kvs.length = vs.length := Paired.length r
      exact wpAny_truthy_dict hS m (by omega) ⟨H, I.tok _, by rw [isEmpty_kv r]; exact q⟩
  | _ => exact (show False from e).elim
theorem pt_truth (ha : PE X a ta) (he : ∀ whole, isTrue a X.env whole = (do let v ← whole; standAt a.pos; holding [v] (truthy v))) :
    PT X a (fun σ H Q => ta σ H fun x H' => ∃ k, TruV X.K x H' k ∧ Q k H') := by
  intro pins s σ H Q I h
  exact isTrue_plain (thn (ha pins s σ H _ I h) fun v s1 ⟨x, H1, I1, r1, q1⟩ => tru_ok pins s1 σ H1 x v Q I1 r1 q1) (he _)
theorem op_add_str : OpR X (binaryOp .Add) (fun x y H Q => ∃ i j, x = .str i ∧ y = .str j ∧ i.length + j.length ≤ sizeLine ∧ Q (.str (i ++ j)) H) := by
  intro pins s σ H x y v u Q I rx ry h
  obtain ⟨i, j, rfl, rfl, hz, q⟩ := h
  obtain ⟨t, rfl⟩ := rx
  obtain ⟨t', rfl⟩ := ry
  exact add_str (fun t' tk => ⟨.str (i ++ j), H, I.tok _, ⟨_, rfl⟩, q⟩) hz
theorem vals1 {x : V} {us : List Value} (r : Vals [x] us) : ∃ u, us = [u] ∧ RelV x u := by
  cases r with
  | cons r1 r2 => cases r2; exact ⟨_, rfl, r1⟩
theorem vals2 {x y : V} {us : List Value} (r : Vals [x, y] us) : ∃ u w', us = [u, w'] ∧ RelV x u ∧ RelV y w' := by
  cases r with
  | cons r1 r2 =>
    cases r2 with
    | cons r3 r4 => cases r4; exact ⟨_, _, rfl, r1, r3⟩
theorem call_max2 (hc : X.calm = true) : CallR X (.builtin "max") (fun xs H Q => ∃ i j, xs = [.int i, .int j] ∧ Q (.int (if j > i then j else i)) H) := by
  intro pins s σ H xs us Q I r h
  obtain ⟨i, j, rfl, q⟩ := h
  obtain ⟨u, w', rfl, ⟨t, rfl⟩, ⟨t', rfl⟩⟩ := vals2 r
  refine max_two_ints (I.ok.hd hc) fun h' tk k => ⟨_, H, I.kept k, ?_, q⟩
  by_cases hj : j > i
  · rw [if_pos hj, if_pos hj]; exact ⟨_, rfl⟩
  · rw [if_neg hj, if_neg hj]; exact ⟨_, rfl⟩
theorem call_min2 (hc : X.calm = true) : CallR X (.builtin "min") (fun xs H Q => ∃ i j, xs = [.int i, .int j] ∧ Q (.int (if j < i then j else i)) H) := by
  intro pins s σ H xs us Q I r h
  obtain ⟨i, j, rfl, q⟩ := h
  obtain ⟨u, w', rfl, ⟨t, rfl⟩, ⟨t', rfl⟩⟩ := vals2 r
  refine min_two_ints (I.ok.hd hc) fun h' tk k => ⟨_, H, I.kept k, ?_, q⟩
  by_cases hj : j < i
  · rw [if_pos hj, if_pos hj]; exact ⟨_, rfl⟩
  · rw [if_neg hj, if_neg hj]; exact ⟨_, rfl⟩
theorem call_int1 : CallR X (.type "int") (fun xs H Q => (∃ i, xs = [.int i] ∧ Q (.int i) H) ∨ ∃ k, xs = [.bl k] ∧ Q (.int (if k then 1 else 0)) H) := by
  intro pins s σ H xs us Q I r h
  rcases h with ⟨i, rfl, q⟩ | ⟨k, rfl, q⟩
  · obtain ⟨u, rfl, t, rfl⟩ := vals1 r
    exact call_int_int ⟨.int i, H, I, ⟨_, rfl⟩, q⟩
  · obtain ⟨u, rfl, r1⟩ := vals1 r
    cases r1
    exact call_int_bool ⟨.int (if k then 1 else 0), H, I.tok _, ⟨_, rfl⟩, q⟩
end
end L2

namespace L2
open PySem PySem.Spec PyProof.Rows
section
variable {prog : Program} {w : World} {A : Around} {E : Value → Shared → Prop} {s : Shared} {K : PySem.W.Frag} {x dx C f : Addr} {mA : Str → Option Value} {name : Str} {v : Value}

end
section
variable {P : Program} {w : World} {H H' : Hp} {h h' : Heap} {a C dx : Addr} {fs fs' : List (Str × V)}
end
section
variable {X : Cx} {pins : List (Addr × Obj)} {σ : St} {H : Hp} {s : Shared} {a C dx : Addr} {fs : List (Str × V)} {f : Str} {v : V} {A : Around} {E : Value → Shared → Prop}

end
section
variable {X : Cx} {o e value : Expr} {f : Str} {pos pos' tpos : Pos} {ta tv : TE}
end
section
variable {X : Cx} {pins : List (Addr × Obj)} {σ : St} {H : Hp} {s : Shared} {A : Around} {E : Value → Shared → Prop} {Q : Value → Shared → Prop} {c : Value} {b : Bool}
end
end L2

namespace L2
open PySem PySem.Spec PyProof.Rows
structure Room (k : Nat) (A : Around) : Prop where
  hd : A.handled = none
  dp : A.depth + 3 * k + 5 < recursionLimit
  un : A.units + 16 * k + 200 < cLine
  gd : A.guards = some []
theorem Room.mono {j k : Nat} {A : Around} (r : Room k A) (h : j ≤ k) : Room j A := ⟨r.hd, by have := r.dp; omega, by have := r.un; omega, r.gd⟩
theorem Room.deeper {k : Nat} {A : Around} (r : Room (k + 1) A) (env : Env) : Room k (A.deeper env) :=
  ⟨r.hd, by have := r.dp; show A.depth + 1 + 3 * k + 5 < _; omega, by have := r.un; show A.units + 3 + 16 * k + 200 < _; omega, r.gd⟩
theorem Room.depth {k : Nat} {A : Around} (r : Room k A) : A.depth < recursionLimit := by have := r.dp; omega
theorem Room.units {k : Nat} {A : Around} (r : Room k A) : A.units + 64 < cLine := by have := r.un; omega
theorem Room.units0 {k : Nat} {A : Around} (r : Room k A) : A.units < cLine := by have := r.un; omega
def tNil : TA := fun _ H Q => Q [] H
def tCons (ta : TE) (tr : TA) : TA := fun σ H Q => ta σ H fun x H1 => tr σ H1 fun xs H2 => Q (x :: xs) H2
section
variable {X : Cx} {e : Expr} {es : List Expr} {te : TE} {t : TA} {pos : Pos}
theorem pa_nil : PA X [] tNil := fun _ _ _ _ H Q I h => Calls.spliced_nil ⟨[], H, I, .nil, h⟩
theorem pa_cons (ha : PE X e te) (hr : PA X es t) (hs : starEach (e :: es) X.env = (false, eval e X.env) :: starEach es X.env := by rfl) : PA X (e :: es) (tCons te t) := by
  intro pos pins s σ H Q I h
  rw [hs]
  show wpAny _ _ (spliced ((false, eval e X.env) :: backTo pos (starEach es X.env))) _ _ s
  refine Calls.spliced_cons (thn (ha pins s σ H _ I h) fun u s1 ⟨x, H1, I1, r1, q1⟩ => ?_)
  exact thn (hr pos pins s1 σ H1 _ I1 q1) fun us s2 ⟨xs, H2, I2, r2, q2⟩ => ⟨x :: xs, H2, I2, .cons r1 r2, q2⟩
def tTup (t : TA) : TE := fun σ H Q => t σ H fun xs H1 => xs.length ≤ sizeLine ∧ ∀ p, H1 p = none → Q (.ref p) (upd H1 p (.tup xs))
def tLst (t : TA) : TE := fun σ H Q => t σ H fun xs H1 => xs.length ≤ sizeLine ∧ ∀ p, H1 p = none → Q (.ref p) (upd H1 p (.lst xs))
theorem pe_tup {x1} (h : PA X es t) : PE X (.Tuple es x1 pos) (tTup t) := by
  intro pins s σ H Q I hq
  refine wpAny_Tuple_spliced (thn (h pos pins s σ H _ I hq) fun us s1 ⟨xs, H1, I1, r, z, q⟩ => ⟨by rw [← r.length]; exact z, ?_⟩)
  have hf : H1 s1.heap.objs.size = none := I1.hok.fresh (Nat.le_refl _)
  refine ⟨.ref s1.heap.objs.size, upd H1 s1.heap.objs.size (.tup xs), I1.laid (t' := s1.toks) (fun b u e => Heap.get?_push_of_some _ e) (Nat.le_refl _) ?_, rfl, q _ hf⟩
  exact ⟨z, us, r, TupX.new _ _⟩
theorem pe_lst (h : PA X es t) : PE X (.List es pos) (tLst t) := by
  intro pins s σ H Q I hq
  refine wpAny_List_spliced (thn (h pos pins s σ H _ I hq) fun us s1 ⟨xs, H1, I1, r, z, q⟩ => ⟨by rw [← r.length]; exact z, ?_⟩)
  have hf : H1 s1.heap.objs.size = none := I1.hok.fresh (Nat.le_refl _)
  refine ⟨.ref s1.heap.objs.size, upd H1 s1.heap.objs.size (.lst xs), I1.laid (t' := s1.toks) (fun b u e => Heap.get?_push_of_some _ e) (Nat.le_refl _) ?_, rfl, q _ hf⟩
  exact ⟨z, us, 0, r, Heap.get?_push_size _ rfl⟩
end
abbrev Sp := List V → Hp → VK → XK → Prop
abbrev CXT := List Env → Hp → Shared → XK → Value → Shared → Prop
structure Env0 (P : Program) (w : World) (K : PySem.W.Frag) (mg : Str → Option Value) (base : Heap) (A : Around) (outer : List Env) (s : Shared) (H : Hp) : Prop where
  frames : A.frames = some outer
  mod : Mod K mg base
  bs : ∀ b o, base.get? b = some o → s.heap.get? b = some o ∧ H b = none
  bsz : base.objs.size ≤ s.heap.objs.size
  funs : s.heap.FunFrames base outer
  frf : ∀ b ∈ frs outer, H b = none
  hok : HOk P w H s.heap
  bare : AllBare s.gens
def CE (outer : List Env) (P : Program) (w : World) (H : Hp) (s : Shared) (Q : VK) (u : Value) (s' : Shared) : Prop :=
  ∃ v H', s'.os = s.os ∧ AllBare s'.gens ∧ Un (frs outer) [] H H' s.heap s'.heap ∧ HOk P w H' s'.heap ∧ RelV v u ∧ Q v H'
def CR (CX : CXT) (outer : List Env) (P : Program) (w : World) (H : Hp) (s : Shared) (Q : VK) (E : XK) (r : Result) (s' : Shared) : Prop :=
  match r with
  | .ok (.ret u) => CE outer P w H s Q u s'
  | .ok _ => False
  | .error e => CX outer H s E e s'
structure FnOk (P : Program) (w : World) (K : PySem.W.Frag) (mg : Str → Option Value) (base : Heap) (CX : CXT) (k : Nat) (f : Addr) (fd : FuncData) (ps : List Str) (sp : Sp) : Prop where
  len : ∀ vs H Q E, sp vs H Q E → vs.length = ps.length
  run : ∀ (A : Around) (outer : List Env) (s : Shared) (H : Hp) (args : Args) (us : List Value) (vs : List V) (Q : VK) (E : XK), Room k A → Env0 P w K mg base A outer s H → BindsTo s fd args (ps.zip us) → Vals vs us → sp vs H Q E →
    codeAny (model P w) A (.call (.ref f) args) (CR CX outer P w H s Q E) s
theorem FnOk.mono {P : Program} {w : World} {K : PySem.W.Frag} {mg : Str → Option Value} {base : Heap} {CX : CXT} {j k : Nat} {f : Addr} {fd : FuncData} {ps : List Str} {sp : Sp} (F : FnOk P w K mg base CX j f fd ps sp) (h : j ≤ k) :
    FnOk P w K mg base CX k f fd ps sp := ⟨F.len, fun A outer s H args us vs Q E hr => F.run A outer s H args us vs Q E (hr.mono h)⟩
theorem FnOk.imp {P : Program} {w : World} {K : PySem.W.Frag} {mg : Str → Option Value} {base : Heap} {CX : CXT} {k : Nat} {f : Addr} {fd : FuncData} {ps : List Str} {sp sp' : Sp} (F : FnOk P w K mg base CX k f fd ps sp)
    (h : ∀ vs H Q E, sp' vs H Q E → sp vs H Q E) : FnOk P w K mg base CX k f fd ps sp' :=
  ⟨fun vs H Q E q => F.len vs H Q E (h _ _ _ _ q), fun A outer s H args us vs Q E hr he hb hv hs => F.run A outer s H args us vs Q E hr he hb hv (h _ _ _ _ hs)⟩

section
variable {X : Cx} {pins : List (Addr × Obj)} {σ : St} {H : Hp} {s s' : Shared}
theorem Inv.env0 (I : Inv X pins σ H s) : Env0 X.prog X.w X.K X.mg X.base X.A X.stack s H :=
  ⟨I.ok.frames, I.ok.mod, I.bs, Nat.le_trans I.ok.bsz I.sz, I.stack, I.stkFree, I.hok, I.bare⟩
theorem Inv.after {Q : VK} {u : Value} (I : Inv X pins σ H s) (h : CE X.stack X.prog X.w H s Q u s') : EP X pins σ Q u s' := by
  obtain ⟨v, H', os, bare, un, hok, r, q⟩ := h
  obtain ⟨hh, g, d, t, os'⟩ := s'
  obtain rfl : os' = s.os := os
  exact ⟨v, H', I.call (h' := hh) (g' := g) (d' := d) (t' := t) (ch := []) un hok bare (fun b z => absurd z (by simp)), r, q⟩
end
def tCall (sp : Sp) (dvs : List V) (E : XK) (t : TA) : TE := fun σ H Q => t σ H fun vs H1 => sp (vs ++ dvs) H1 Q E
def Binds (K : PySem.W.Frag) (fd : FuncData) (ps : List Str) (ds : List Value) : Prop :=
  ∀ (s : Shared) (us : List Value), K.In s.heap → (us ++ ds).length = ps.length → BindsTo s fd ⟨us, []⟩ (ps.zip (us ++ ds))
theorem Binds.all {K : PySem.W.Frag} {fd : FuncData} {ps : List Str} (h : ∀ us : List Value, us.length = ps.length → bindArgs fd ⟨us, []⟩ = pure (ps.zip us)) : Binds K fd ps [] := fun s us _ hl => by
  rw [List.append_nil] at hl ⊢
  exact .of_eq (h us hl)
def Passes (CX : CXT) (X : Cx) (E : XK) : Prop := ∀ (pins : List (Addr × Obj)) (σ : St) (H : Hp) (s : Shared) (e : Value) (s' : Shared), Inv X pins σ H s → CX X.stack H s E e s' → X.xe e s'

section
variable {X : Cx} {CX : CXT} {k : Nat} {f C : Addr} {fd : FuncData} {ps : List Str} {sp : Sp} {dvs : List V} {ds : List Value} {E : XK} {x m : Str} {p pos apos : Pos} {e o : Expr} {es : List Expr} {ta : TE} {t : TA}
theorem run_fn {pins : List (Addr × Obj)} {σ : St} {H : Hp} {s : Shared} {Q : VK} {us : List Value} {vs : List V} (F : FnOk X.prog X.w X.K X.mg X.base CX k f fd ps sp) (hr : Room k X.A) (hb : Binds X.K fd ps ds) (hd : Vals dvs ds) (hx : Passes CX X E)
    (I : Inv X pins σ H s) (r : Vals vs us) (h : sp (vs ++ dvs) H Q E) : wpAny (model X.prog X.w) X.A (call (.ref f) us) (EP X pins σ Q) X.xe s := by
  have r2 : Vals (vs ++ dvs) (us ++ ds) := r.append hd
  have hl : (us ++ ds).length = ps.length := by rw [← r2.length]; exact F.len _ _ _ _ h
  refine wpAny_call (codeAny_mono (F.run X.A X.stack s H ⟨us, []⟩ (us ++ ds) (vs ++ dvs) Q E hr I.env0 (hb s us I.kIn hl) r2 h) fun r s' hq => ?_)
  cases r with
  | error e => exact hx pins σ H s e s' I hq
  | ok fl =>
    cases fl with
    | ret u => exact I.after hq
    | next => exact False.elim hq
    | brk => exact False.elim hq
    | cont => exact False.elim hq

theorem pe_call (F : FnOk X.prog X.w X.K X.mg X.base CX k f fd ps sp) (hr : Room k X.A) (hg : Gl X x) (hm : X.mg x = some (.ref f)) (hk : PySem.W.keepIn X.K (.ref f) = true) (hb : Binds X.K fd ps ds) (hd : Vals dvs ds) (hx : Passes CX X E)
    (ha : PA X (e :: es) t) (hdb : (x == ("__debug__" : Str)) = false := by decide) (he : starEach (e :: es) X.env = (false, eval e X.env) :: starEach es X.env := by rfl) (hpl : (backTo pos (starEach es X.env)).any (·.1) = false := by rfl) :
    PE X (.Call (.Name x p) (e :: es) [] pos) (tCall sp dvs E t) := by
  intro pins s σ H Q I h
  refine wpAny_Call_Name_kw (ld_glob I hg hm ?_ hdb)
  refine PySem.W.callWith_K (h₀ := X.base) I.ok.mod.kin hk (thn (ha pos pins s σ H _ I h) fun us s1 ⟨vs, H1, I1, r, q⟩ => ⟨I1.kIn, ?_⟩) he hpl
  exact run_fn F hr hb hd hx I1 r q
end
def PK (X : Cx) (kws : List Keyword) (t : TA) : Prop :=
  ∀ (pos : Pos) (pins : List (Addr × Obj)) (s : Shared) (σ : St) (H : Hp) (Q : List V → Hp → Prop), Inv X pins σ H s → t σ H Q → wpAny (model X.prog X.w) X.A (evalAll ((backToKw pos (keywordEach kws X.env)).map (·.2))) (AP X pins σ Q) X.xe s
section
variable {X : Cx} {CX : CXT} {k : Nat} {f C : Addr} {fd : FuncData} {ps ks : List Str} {sp : Sp} {E : XK} {x m : Str} {p pos apos kpos : Pos} {e o : Expr} {es : List Expr} {kws : List Keyword} {te ta : TE} {t tk : TA} {nm : Option Str}
theorem pk_nil : PK X [] tNil := fun _ _ _ _ H Q I h => wpAny_evalAll_nil ⟨[], H, I, .nil, h⟩
theorem pk_cons (ha : PE X e te) (hr : PK X kws t) : PK X (⟨nm, e, kpos⟩ :: kws) (tCons te t) := by
  intro pos pins s σ H Q I h
  show wpAny _ _ (evalAll ((do let v ← eval e X.env; standAt pos; pure v) :: (backToKw pos (keywordEach kws X.env)).map (·.2))) _ _ s
  refine wpAny_evalAll_cons (wpAny_bind (thn (ha pins s σ H _ I h) fun u s1 ⟨x, H1, I1, r1, q1⟩ => wpAny_bind (wpAny_standAt (wpAny_pure ?_))))
  exact thn (hr pos pins s1 σ H1 _ I1 q1) fun us s2 ⟨xs, H2, I2, r2, q2⟩ => ⟨x :: xs, H2, I2, .cons r1 r2, q2⟩

variable {g : List Value → List Value → List Value} {gV : List V → List V → List V}
end
structure FnScope (N P : List Str) (sc : Scope) : Prop where
  kind : sc.kind = .function
  co : sc.isCoroutine = false
  gen : sc.isGenerator = false
  nd : N.Nodup
  pre : N.take P.length = P
  par : ∀ x ∈ P, sc.names.lookup x = some .local ∨ sc.names.lookup x = some .cell
  nofree : ∀ y ∈ sc.names, y.2 ≠ .free

theorem bindL_out {kindOf : Str → Option NameKind} {x : Str} : ∀ {binds : List (Str × Value)} {m : Str → Option Value}, (∀ v, (x, v) ∉ binds) → bindL kindOf binds m x = m x
  | [], _, _ => rfl
  | (n, v) :: r, m, h => by
    unfold bindL
    rw [bindL_out fun w hw => h w (List.mem_cons_of_mem _ hw)]
    split
    · have : x ≠ n := by rintro rfl; exact h v List.mem_cons_self
      simp [this]
    · rfl
theorem bindC_out {kindOf : Str → Option NameKind} {x : Str} : ∀ {binds : List (Str × Value)} {m : Str → Option Value}, (∀ v, (x, v) ∉ binds) → bindC kindOf binds m x = m x
  | [], _, _ => rfl
  | (n, v) :: r, m, h => by
    unfold bindC
    rw [bindC_out fun w hw => h w (List.mem_cons_of_mem _ hw)]
    split
    · rfl
    · have : x ≠ n := by rintro rfl; exact h v List.mem_cons_self
      simp [this]
theorem bindL_get {kindOf : Str → Option NameKind} {x : Str} {v : Value} : ∀ {P : List Str} {vs : List Value} {i : Nat} {m : Str → Option Value}, P.Nodup → P[i]? = some x → vs[i]? = some v → kindOf x = some .local →
    bindL kindOf (P.zip vs) m x = some v
  | [], _, _, _, _, h, _, _ => by simp at h
  | _ :: _, [], _, _, _, _, h, _ => by simp at h
  | p :: P, w :: vs, 0, m, nd, h1, h2, hk => by
    simp at h1 h2; subst h1; subst h2
    show bindL kindOf ((p, w) :: P.zip vs) m p = _
    unfold bindL
    rw [bindL_out fun v hv => (List.nodup_cons.mp nd).1 (List.of_mem_zip hv).1, if_pos hk]
    simp
  | p :: P, w :: vs, i + 1, m, nd, h1, h2, hk => by
    show bindL kindOf ((p, w) :: P.zip vs) m x = _
    unfold bindL
    exact bindL_get (i := i) (List.nodup_cons.mp nd).2 (by simpa using h1) (by simpa using h2) hk
theorem bindC_get {kindOf : Str → Option NameKind} {x : Str} {v : Value} : ∀ {P : List Str} {vs : List Value} {i : Nat} {m : Str → Option Value}, P.Nodup → P[i]? = some x → vs[i]? = some v → kindOf x ≠ some .local →
    bindC kindOf (P.zip vs) m x = some v
  | [], _, _, _, _, h, _, _ => by simp at h
  | _ :: _, [], _, _, _, _, h, _ => by simp at h
  | p :: P, w :: vs, 0, m, nd, h1, h2, hk => by
    simp at h1 h2; subst h1; subst h2
    show bindC kindOf ((p, w) :: P.zip vs) m p = _
    unfold bindC
    rw [bindC_out fun v hv => (List.nodup_cons.mp nd).1 (List.of_mem_zip hv).1, if_neg hk]
    simp
  | p :: P, w :: vs, i + 1, m, nd, h1, h2, hk => by
    show bindC kindOf ((p, w) :: P.zip vs) m x = _
    unfold bindC
    exact bindC_get (i := i) (List.nodup_cons.mp nd).2 (by simpa using h1) (by simpa using h2) hk
def start (N : List Str) (vs : List V) : St := vs.map some ++ List.replicate (N.length - vs.length) none
def cxOf (CX : CXT) (P : Program) (w : World) (K : PySem.W.Frag) (mg : Str → Option Value) (base : Heap) (N : List Str) (qual : Str) (scope : Scope) (f : Addr) (cd : Value) (A : Around) (outer : List Env) (s : Shared) (H : Hp) (E : XK) : Cx where
  prog := P
  w := w
  K := K
  mg := mg
  base := base
  A := A.deeper (envOfC qual scope s.heap.objs.size f cd)
  N := N
  s₀ := s
  H₀ := H
  env := envOfC qual scope s.heap.objs.size f cd
  outer := outer
  stack := envOfC qual scope s.heap.objs.size f cd :: outer
  ex := []
  calm := true
  fn := fun _ => true
  pn := []
  xe := fun e s' => wpAny (model P w) (A.deeper (envOfC qual scope s.heap.objs.size f cd)) (leaving (envOfC qual scope s.heap.objs.size f cd) e) (fun _ s'' => CX outer H s E e s'') (fun e' s'' => CX outer H s E e' s'') s'

theorem cell_has {sc : Scope} {n : Nat} {x : Str} (h : sc.names.lookup x = some .cell) : ∃ c, (cellsFrom n sc.names []).lookup x = some c := by
  have q := PySem.W.cellsFrom_some sc.names n [] (.inl h)
  exact Option.isSome_iff_exists.mp q

theorem inv_start {CX : CXT} {P : Program} {w : World} {K : PySem.W.Frag} {mg : Str → Option Value} {base : Heap} {N ps : List Str} {qual : Str} {scope : Scope} {f : Addr} {cd : Value} {A : Around} {outer : List Env} {s s1 : Shared} {H : Hp} {E : XK} {us : List Value} {vs : List V}
    (S : FnScope N ps scope) (hd : A.handled = none) (e0 : Env0 P w K mg base A outer s H) (hl : vs.length = ps.length) (r : Vals vs us)
    (x : InCallC s s.heap.objs.size (bindL (envOfC qual scope s.heap.objs.size f cd).kindOf (ps.zip us) fun _ => none) (cellsFrom (s.heap.objs.size + 1) scope.names []) (bindC (envOfC qual scope s.heap.objs.size f cd).kindOf (ps.zip us) fun _ => none) s1) :
    Inv (cxOf CX P w K mg base N qual scope f cd A outer s H E) [] (start N vs) H s1 := by
  have hpl : ps.length ≤ N.length := by have := congrArg List.length S.pre; rw [List.length_take] at this; omega
  obtain ⟨h1, tk, rfl, hk⟩ := x.done
  have noA : ∀ b : Addr, b ∉ (cxOf CX P w K mg base N qual scope f cd A outer s H E).ex := fun b z => absurd (show b ∈ ([] : List Addr) from z) (by simp)
  refine ⟨⟨e0.mod, S.kind, rfl, rfl, Nat.le_refl _, fun y z c h1 h2 => ?_, fun y hy => ?_, fun y c _ h => ?_, fun _ => hd, Around.frames_deeper e0.frames, .inr ⟨rfl, rfl⟩, fun b z => absurd z (noA b), e0.bs, e0.bsz, fun b _ _ => noA b, fun b z => absurd z (noA b), e0.funs, e0.frf⟩,
    rfl, e0.bare, Un.kept hk, ⟨_, x.toInCall.ns, fun i y v h1 h2 h3 => ?_⟩, fun y c h => ⟨_, x.cell y c h⟩, e0.hok.fresh (Nat.le_refl _), fun y c h => ?_, fun p hp => absurd (show p ∈ ([] : List (Addr × Obj)) from hp) (by simp), e0.hok.kept hk, ?_⟩
  · exact name_of_addr x.apart (PySem.mem_of_lookup h1) (PySem.mem_of_lookup h2)
  · have hy : scope.names.lookup y = some .cell ∨ scope.names.lookup y = some .free := hy
    rcases hy with hy | hy
    · exact cell_has hy
    · exact absurd rfl (S.nofree _ (PySem.mem_of_lookup hy))
  · exact Nat.le_of_lt (x.above y c (PySem.mem_of_lookup h))
  · have hi : i < vs.length := by
      unfold start at h2
      by_cases hi : i < vs.length
      · exact hi
      · rw [List.getElem?_append_right (by simpa using hi)] at h2
        rw [List.getElem?_replicate] at h2
        split at h2 <;> cases h2
    have ha : vs[i]? = some v := by
      unfold start at h2
      rw [List.getElem?_append_left (by simpa using hi), List.getElem?_map] at h2
      cases e : vs[i]? with
      | none => rw [e] at h2; cases h2
      | some a => rw [e] at h2; cases h2; rfl
    obtain ⟨u, hu, rv⟩ := r.get ha
    have hp : ps[i]? = some y := by
      rw [← S.pre, List.getElem?_take_of_lt (by omega)]; exact h1
    have ndP : ps.Nodup := by rw [← S.pre]; exact S.nd.sublist (List.take_sublist _ _)
    refine ⟨u, rv, ?_⟩
    rcases S.par y (List.mem_of_getElem? hp) with k | k
    · exact .inl ⟨k, bindL_get ndP hp hu k⟩
    · obtain ⟨c, e⟩ := cell_has (n := s.heap.objs.size + 1) k
      refine .inr ⟨.inl k, c, e, ?_⟩
      have q := x.cell y c e
      rw [bindC_get ndP hp hu (by show scope.names.lookup y ≠ _; rw [k]; decide)] at q
      exact q
  · exact e0.hok.fresh (Nat.le_of_lt (x.above y c (PySem.mem_of_lookup h)))
  · unfold start
    show _ = N.length
    rw [List.length_append, List.length_map, List.length_replicate]
    omega
theorem fn_of {CX : CXT} {P : Program} {w : World} {K : PySem.W.Frag} {mg : Str → Option Value} {base : Heap} {k : Nat} {f : Addr} {name qual : Str} {params : Arguments} {body : List Stmt} {scope : Scope} {dV kV doc pm cdv ct oc : Value} {an od : Option Addr}
    {osl : Array (Option Value)} {N ps : List Str} {sp : Sp} (lk : K.lookup f = some ⟨oc, od, .func (PySem.W.fnOf name qual params body scope dV kV doc pm an cdv ct), osl⟩) (hcd : PySem.W.codeIn K cdv qual = true) (S : FnScope N ps scope)
    (len : ∀ vs H Q E, sp vs H Q E → vs.length = ps.length)
    (hbody : ∀ (A : Around) (outer : List Env) (s : Shared) (H : Hp) (vs : List V) (Q : VK) (E : XK), Room k (A.deeper (envOfC qual scope s.heap.objs.size f cdv)) → sp vs H Q E →
      ∃ t, PSs (cxOf CX P w K mg base N qual scope f cdv A outer s H E) body t ∧ t { nx := fun _ H' => Q .non H', rt := Q } (start N vs) H) :
    FnOk P w K mg base CX (k + 1) f (PySem.W.fnOf name qual params body scope dV kV doc pm an cdv ct) ps sp := by
  refine ⟨len, fun A outer s H args us vs Q E hr e0 hb r hsp => ?_⟩
  have hl := len _ _ _ _ hsp
  have KX : K.In s.heap := e0.mod.kin.keeps fun b o e => (e0.bs b o e).1
  have lim : s.heap.NoLimit := e0.mod.nolimit.keeps fun b o e => (e0.bs b o e).1
  have hkind : ∀ y ∈ ps.zip us, scope.names.lookup y.1 = some .local ∨ (scope.names.lookup y.1 = some .cell ∧ ((cellsFrom (s.heap.objs.size + 1) scope.names []).lookup y.1).isSome = true) := fun ⟨n, v⟩ hy => by
    rcases S.par n (List.of_mem_zip hy).1 with q | q
    · exact .inl q
    · exact .inr ⟨q, PySem.W.cellsFrom_some _ _ _ (.inl q)⟩
  refine codeAny_call_function hr.depth (KX _ _ lk) rfl S.co S.gen rfl (PySem.W.codeRec_of KX hcd) (hb _ _ _ _ ?_)
  refine wpAny_newFunctionEnv_cells S.kind hkind fun env he s1 x => ?_
  subst he
  refine ⟨lim.keeps x.toInCall.keep, codeAny_func ?_⟩
  obtain ⟨t, ht, hq⟩ := hbody A outer s H vs Q E (hr.deeper _) hsp
  have I : Inv (cxOf CX P w K mg base N qual scope f cdv A outer s H E) [] (start N vs) H s1 := inv_start S hr.hd e0 hl r x
  refine wpAny_mono (ht [] s1 (start N vs) H _ I hq) (fun fl s' hs => ?_) fun e s' hs => hs
  have fin : ∀ {σ' : St} {H' : Hp} {v : V} {u : Value}, Inv (cxOf CX P w K mg base N qual scope f cdv A outer s H E) [] σ' H' s' → RelV v u → Q v H' → CE outer P w H s Q u s' :=
    fun {σ' H' v u} J rv q => ⟨v, H', J.os, J.bare, J.base, J.hok, rv, q⟩
  cases fl with
  | ret u =>
    obtain ⟨v, σ', H', J, rv, q⟩ := hs
    exact fin J rv q
  | next =>
    obtain ⟨σ', H', J, q⟩ := hs
    exact fin (v := V.non) (u := Value.none) J rfl q
  | brk =>
    obtain ⟨_, _, _, q⟩ := hs
    exact False.elim q
  | cont =>
    obtain ⟨_, _, _, q⟩ := hs
    exact False.elim q
end L2

namespace L2
open PySem PySem.Spec PyProof.Rows
section
variable {X : Cx} {x : Str} {p pos : Pos} {e : Expr} {es : List Expr} {t : TA} {id T : String} {r : List V → Hp → VK → Prop}

def tCB (r : List V → Hp → VK → Prop) (t : TA) : TE := fun σ H Q => t σ H fun vs H1 => r vs H1 Q
theorem pe_callB (hc : CallR X (.builtin id) r) (hg : Gl X x) (hm : X.mg x = none) (hv : bootBuiltins x = some (.builtin id)) (ha : PA X (e :: es) t) (hn : x ≠ "__name__" := by decide) (hdb : (x == ("__debug__" : Str)) = false := by decide)
    (he : starEach (e :: es) X.env = (false, eval e X.env) :: starEach es X.env := by rfl) (hpl : (backTo pos (starEach es X.env)).any (·.1) = false := by rfl) : PE X (.Call (.Name x p) (e :: es) [] pos) (tCB r t) := by
  intro pins s σ H Q I h
  refine wpAny_Call_Name_kw (ld_blt I hg hm hv ?_ hn hdb)
  exact PyProof.Rows.callWith_builtin1 (thn (ha pos pins s σ H _ I h) fun us s1 ⟨vs, H1, I1, r1, q1⟩ => hc pins s1 σ H1 vs us Q I1 r1 q1) he hpl
theorem pe_callTy (hc : CallR X (.type T) r) (hg : Gl X x) (hm : X.mg x = none) (hv : bootBuiltins x = some (.type T)) (ha : PA X (e :: es) t) (hn : x ≠ "__name__" := by decide) (hdb : (x == ("__debug__" : Str)) = false := by decide)
    (he : starEach (e :: es) X.env = (false, eval e X.env) :: starEach es X.env := by rfl) (hpl : (backTo pos (starEach es X.env)).any (·.1) = false := by rfl) : PE X (.Call (.Name x p) (e :: es) [] pos) (tCB r t) := by
  intro pins s σ H Q I h
  refine wpAny_Call_Name_kw (ld_blt I hg hm hv ?_ hn hdb)
  exact PyProof.Rows.callWith_type1 (thn (ha pos pins s σ H _ I h) fun us s1 ⟨vs, H1, I1, r1, q1⟩ => hc pins s1 σ H1 vs us Q I1 r1 q1) he hpl
end
end L2

namespace HT
open PySem PyProof.Rows

section
open PySem.SeqAt
open PySem.AutoSeq1 (wpAny_loadPart')
open PySem.MeetsSeq PySem.MeetsSeq2 PySem.MeetsSeq3

end

section
variable {prog : Program} {w : World} {A : Around} {E : Value → Shared → Prop} {s : Shared}
def sIx (n d : Nat) : Option Int → Nat
  | none => d
  | some v => if v < 0 then (v + (n : Int)).toNat else min v.toNat n
theorem sIx_none (n d : Nat) : sIx n d none = d := rfl
theorem sIx_nat (n d k : Nat) : sIx n d (some (k : Int)) = min k n := by
  show (if (k : Int) < 0 then ((k : Int) + (n : Int)).toNat else min (k : Int).toNat n) = min k n
  rw [if_neg (by omega), Int.toNat_natCast]
end
end HT

namespace L2
open PySem PySem.Spec PyProof.Rows
abbrev TO := St → Hp → (Option Int → Hp → Prop) → Prop
def PO (X : Cx) (e : Option Expr) (t : TO) : Prop :=
  ∀ (pins : List (Addr × Obj)) (s : Shared) (σ : St) (H : Hp) (Q : Option Int → Hp → Prop), Inv X pins σ H s → t σ H Q →
    wpAny (model X.prog X.w) X.A (evalPart e X.env) (fun u s' => ∃ o H', Inv X pins σ H' s' ∧ IsPart u o ∧ Q o H') X.xe s
def tNoPart : TO := fun _ H Q => Q none H
def tPart (t : TE) : TO := fun σ H Q => t σ H fun x H1 => ∃ i, x = .int i ∧ Q (some i) H1

section
variable {X : Cx} {e : Expr} {te : TE} {lo hi : Option Expr} {tl th : TO} {pos p2 : Pos}

theorem po_none : PO X none tNoPart := by
  intro pins s σ H Q I h
  rw [evalPart_none]
  exact wpAny_pure ⟨none, H, I, .none, h⟩
theorem po_some (h : PE X e te) : PO X (some e) (tPart te) := by
  intro pins s σ H Q I hw
  rw [evalPart_some]
  refine thn (h pins s σ H _ I hw) fun u s1 ⟨x, H1, I1, r1, q1⟩ => ?_
  obtain ⟨i, rfl, q⟩ := q1
  obtain ⟨t, rfl⟩ := r1
  exact ⟨some i, H1, I1, .int i t, q⟩
def SlR (X : Cx) (r : V → Option Int → Option Int → Hp → VK → Prop) : Prop :=
  ∀ (pins : List (Addr × Obj)) (s : Shared) (σ : St) (H : Hp) (x : V) (v vl vu : Value) (lo hi : Option Int) (sl : Addr) (Q : VK), Inv X pins σ H s → RelV x v → s.heap.IsSliceOf sl vl vu .none → IsPart vl lo → IsPart vu hi → r x lo hi H Q →
    ∃ T id, typeLookup (.type T) "__getitem__" = pure (some (.builtin id)) ∧ s.TypeIs v T ∧ wpAny (model X.prog X.w) X.A (getItem v (.ref sl)) (EP X pins σ Q) X.xe s
def tSl (r : V → Option Int → Option Int → Hp → VK → Prop) (te : TE) (tl th : TO) : TE := fun σ H Q => te σ H fun x H1 => tl σ H1 fun l H2 => th σ H2 fun u H3 => r x l u H3 Q
theorem pe_slice {r : V → Option Int → Option Int → Hp → VK → Prop} (hr : SlR X r) (he : PE X e te) (hl : PO X lo tl) (hu : PO X hi th) : PE X (.Subscript e (.Slice lo hi none p2) pos) (tSl r te tl th) := by
  intro pins s σ H Q I h
  refine Subscript_ (thn (he pins s σ H _ I h) fun v s1 ⟨x, H1, I1, r1, q1⟩ => ?_)
  refine wpAny_Slice (thn (hl pins s1 σ H1 _ I1 q1) fun vl s2 ⟨l, H2, I2, pl, q2⟩ => thn (hu pins s2 σ H2 _ I2 q2) fun vu s3 ⟨u, H3, I3, pu, q3⟩ => ?_)
  rw [evalPart_none]
  refine wpAny_pure ?_
  have I4 : Inv X pins σ H3 { s3 with heap := s3.heap.push { cls := .type "slice", data := .fields #[vl, vu, .none] } } := I3.kept (t' := s3.toks) fun b ob q => Heap.get?_push_of_some _ q
  obtain ⟨T, id, hT, ht, hg⟩ := hr pins { s3 with heap := s3.heap.push { cls := .type "slice", data := .fields #[vl, vu, .none] } } σ H3 x v vl vu l u s3.heap.objs.size Q I4 r1 (Heap.IsSliceOf.new ..) pl pu q3
  show wpAny (model X.prog X.w) X.A (subscriptTail e (.Slice lo hi none p2) v (.ref s3.heap.objs.size)) (EP X pins σ Q) X.xe { s3 with heap := s3.heap.push { cls := .type "slice", data := .fields #[vl, vu, .none] } }
  exact tail_any (ops := [.ref s3.heap.objs.size, v]) ht hT hg (by with_unfolding_all rfl)
def cutV (xs : List V) (lo hi : Option Int) : List V := (xs.drop (HT.sIx xs.length 0 lo)).take (HT.sIx xs.length xs.length hi - HT.sIx xs.length 0 lo)
theorem cutV_length (xs : List V) (lo hi : Option Int) : (cutV xs lo hi).length ≤ xs.length := by
  unfold cutV
  rw [List.length_take, List.length_drop]
  omega
end
end L2

namespace L2
open PySem PySem.Spec PyProof.Rows
def ixN (n : Nat) (i : Int) : Option Nat := if 0 ≤ i then (if i < n then some i.toNat else none) else if -(n : Int) ≤ i then some (i + n).toNat else none
def atI {α : Type} (xs : List α) (i : Int) : Option α := (ixN xs.length i).bind fun j => xs[j]?
theorem ixN_seq {n : Nat} {i : Int} {j : Nat} (h : ixN n i = some j) : seqIndex? i n = some j ∧ j < n ∧ -(n : Int) ≤ i ∧ i < n := by
  unfold ixN at h
  by_cases h0 : 0 ≤ i
  · rw [if_pos h0] at h
    by_cases h1 : i < n
    · rw [if_pos h1] at h
      have e : i.toNat = j := Option.some.inj h
      exact ⟨by rw [seqIndex_of h0 h1, e], by omega, by omega, h1⟩
    · rw [if_neg h1] at h; cases h
  · rw [if_neg h0] at h
    by_cases h1 : -(n : Int) ≤ i
    · rw [if_pos h1] at h
      have e : (i + n).toNat = j := Option.some.inj h
      exact ⟨by rw [seqIndex_neg (by omega) h1, e], by omega, h1, by omega⟩
    · rw [if_neg h1] at h; cases h
theorem atI_get {α : Type} {xs : List α} {i : Int} {v : α} (h : atI xs i = some v) : ∃ j, seqIndex? i xs.length = some j ∧ xs[j]? = some v ∧ j < xs.length ∧ -(xs.length : Int) ≤ i ∧ i < xs.length := by
  unfold atI at h
  cases e : ixN xs.length i with
  | none => rw [e] at h; cases h
  | some j =>
    rw [e] at h
    obtain ⟨h1, h2, h3, h4⟩ := ixN_seq e
    exact ⟨j, h1, h, h2, h3, h4⟩
theorem atI_nat {α : Type} {xs : List α} {j : Nat} {v : α} (h : xs[j]? = some v) : atI xs (j : Int) = some v := by
  have hj : j < xs.length := (List.getElem?_eq_some_iff.mp h).1
  have e : ixN xs.length (j : Int) = some j := by
    unfold ixN
    rw [if_pos (by omega), if_pos (by omega)]; simp
  unfold atI; rw [e]; exact h
theorem atI_last {α : Type} (xs : List α) (v : α) : atI (xs ++ [v]) (-1) = some v := by
  have hl : (xs ++ [v]).length = xs.length + 1 := by simp
  have e : ixN (xs ++ [v]).length (-1) = some xs.length := by
    unfold ixN
    rw [hl, if_neg (by decide), if_pos (by omega)]
    congr 1
    omega
  unfold atI
  rw [e]
  show (xs ++ [v])[xs.length]? = some v
  simp
def PlainIx (b : Expr) : Prop := ∀ o i, subscripted b false o i = operate [o, i] (getItem o i)
def IxR (X : Cx) (r : R2) : Prop :=
  ∀ (value slice : Expr) (pins : List (Addr × Obj)) (s : Shared) (σ : St) (H : Hp) (x y : V) (v u : Value) (Q : VK), Inv X pins σ H s → RelV x v → RelV y u → r x y H Q →
    subscripted slice false v u = operate [v, u] (getItem v u) → wpAny (model X.prog X.w) X.A (subscriptTail value slice v u) (EP X pins σ Q) X.xe s
def MtR (X : Cx) (id : String) (r : V → List V → Hp → VK → Prop) : Prop :=
  ∀ (pins : List (Addr × Obj)) (s : Shared) (σ : St) (H : Hp) (x : V) (xs : List V) (v : Value) (us : List Value) (Q : VK), Inv X pins σ H s → RelV x v → Vals xs us → r x xs H Q →
    wpAny (model X.prog X.w) X.A (call (.builtin id) (v :: us)) (EP X pins σ Q) X.xe s
section
variable {X : Cx} {a b : Expr} {ta tb : TE} {pos : Pos}
theorem pe_ix {r : R2} (hr : IxR X r) (ha : PE X a ta) (hb : PE X b tb) (hs : PlainIx b) : PE X (.Subscript a b pos) (tOp r ta tb) := by
  intro pins s σ H Q I h
  exact Subscript_ (binT ha hb I h fun v u s2 x y H2 I2 rx ry q => hr a b pins s2 σ H2 x y v u Q I2 rx ry q (hs _ _))

def rIxL (K : PySem.W.Frag) : R2 := fun x y H Q => ∃ p xs i v, x = .ref p ∧ y = .int i ∧ SqL K H p xs ∧ atI xs i = some v ∧ Q v H
def rIxT (K : PySem.W.Frag) : R2 := fun x y H Q => ∃ p xs i v, x = .ref p ∧ y = .int i ∧ SqT K H p xs ∧ atI xs i = some v ∧ Q v H
theorem ix_list : IxR X (rIxL X.K) := by
  intro value slice pins s σ H x y v u Q I rx ry h hs
  obtain ⟨p, xs, i, z, rfl, rfl, hq, he, q⟩ := h
  cases rx
  obtain ⟨t, rfl⟩ := ry
  obtain ⟨its, r, pl, hz⟩ := I.list hq
  obtain ⟨j, h1, h2, h3, h4, h5⟩ := atI_get he
  obtain ⟨w, ew, rw'⟩ := r.get h2
  have hl := r.length
  have hn := line63
  have fin : EP X pins σ Q w s := ⟨z, H, I, rw', q⟩
  by_cases h0 : 0 ≤ i
  · have hj : i.toNat = j := by
      rw [seqIndex_of h0 h5] at h1
      exact Option.some.inj h1
    exact item_listR pl.isList h0 (by omega) (by rw [hj]; simpa using ew) fin hs
  · have hj : (i + (its.toArray.size : Int)).toNat = j := by
      rw [seqIndex_neg (by omega) h4] at h1
      rw [List.size_toArray, ← hl]
      exact Option.some.inj h1
    exact subscriptTail_builtinR (x := w) pl.isList.typeIs slot_list_getitem.lookup
      (wpAny_getItem_list_neg (Q := fun r s' => r = w ∧ EP X pins σ Q r s') pl.isList (by omega) (by rw [List.size_toArray] <;> omega) (by omega) (by rw [hj]; simpa using ew) ⟨rfl, fin⟩) hs
theorem ix_tup : IxR X (rIxT X.K) := by
  intro value slice pins s σ H x y v u Q I rx ry h hs
  obtain ⟨p, xs, i, z, rfl, rfl, hq, he, q⟩ := h
  cases rx
  obtain ⟨t, rfl⟩ := ry
  obtain ⟨its, r, pl, hz⟩ := I.tuple hq
  obtain ⟨j, h1, h2, h3, h4, h5⟩ := atI_get he
  obtain ⟨w, ew, rw'⟩ := r.get h2
  have hl := r.length
  have hn := line63
  have fin : EP X pins σ Q w s := ⟨z, H, I, rw', q⟩
  exact subscriptTail_builtinR (x := w) pl.typeIs slot_tuple_getitem.lookup
    (getItem_tuple (j := j) (Q := fun r s' => r = w ∧ EP X pins σ Q r s') pl (by omega) (by omega) (by rw [List.size_toArray, ← hl]; exact h1) (by simpa using ew) ⟨rfl, fin⟩) hs
theorem mapSeq_set (its : List Value) (n j : Nat) (u : Value) : Obj.mapSeq (·.setIfInBounds j u) { cls := .type "list", data := .seq its.toArray n } = { cls := .type "list", data := .seq (its.set j u).toArray n } := by
  simp [Obj.mapSeq]
theorem Inv.lst {pins : List (Addr × Obj)} {σ : St} {H : Hp} {s : Shared} {p : Addr} {xs : List V} (I : Inv X pins σ H s) (h : H p = some (.lst xs)) :
    ∃ (its : List Value) (n : Nat), Vals xs its ∧ s.heap.get? p = some { cls := .type "list", data := .seq its.toArray n } ∧ xs.length ≤ sizeLine := by
  obtain ⟨z, its, n, r, e⟩ := I.hok p _ h
  exact ⟨its, n, r, e, z⟩
theorem Inv.lstUpd {pins : List (Addr × Obj)} {σ : St} {H : Hp} {s : Shared} {p : Addr} {xs ys : List V} {its its' : List Value} {n n' : Nat} {f : Obj → Obj} (I : Inv X pins σ H s) (h : H p = some (.lst xs))
    (ho : s.heap.get? p = some { cls := .type "list", data := .seq its.toArray n }) (hf : f { cls := .type "list", data := .seq its.toArray n } = { cls := .type "list", data := .seq its'.toArray n' }) (r : Vals ys its') (hz : ys.length ≤ sizeLine) (t : Nat) :
    Inv X pins σ (upd H p (.lst ys)) { s with heap := s.heap.update p f, toks := t } := by
  have e : (s.heap.update p f).get? p = some { cls := .type "list", data := .seq its'.toArray n' } := by
    rw [Heap.get?_update_self f ho (by rw [hf] <;> rfl), hf]
  refine I.write (x := p) (e := p) (by rw [h]; trivial) (.inl rfl) (fun b u hb q => (Heap.get?_update_other _ _ (Ne.symm hb)).trans q) ⟨_, e⟩ ?_
  exact ⟨hz, its', n', r, e⟩
def rSetL : V → V → V → Hp → (Hp → Prop) → Prop := fun o i v H Q => ∃ p xs k j, o = .ref p ∧ i = .int k ∧ H p = some (.lst xs) ∧ ixN xs.length k = some j ∧ Q (upd H p (.lst (xs.set j v)))
theorem set_list : PSet X rSetL := by
  intro pins s σ H o i v ov iv u Q I ro ri rv h
  obtain ⟨p, xs, k, j, rfl, rfl, hp, hj, q⟩ := h
  cases ro
  obtain ⟨t, rfl⟩ := ri
  obtain ⟨its, n, r, ho, hz⟩ := I.lst hp
  obtain ⟨h1, h2, h3, h4⟩ := ixN_seq hj
  have hl := r.length
  have hn := line63
  have I' : Inv X pins σ (upd H p (.lst (xs.set j v))) { s with heap := s.heap.update p (Obj.mapSeq (·.setIfInBounds j u)) } :=
    I.lstUpd hp ho (mapSeq_set its n j u) (r.set rv j) (by rw [List.length_set]; exact hz) s.toks
  by_cases h0 : 0 ≤ k
  · have hk : k.toNat = j := by
      rw [seqIndex_of h0 h4] at h1
      exact Option.some.inj h1
    exact PySem.W.ki_setAt ho h0 (by omega) (by rw [List.size_toArray, ← hl]; exact h4) (by rw [hk]; exact ⟨_, I', q⟩)
  · have hk : (k + (its.toArray.size : Int)).toNat = j := by
      rw [seqIndex_neg (by omega) h3] at h1
      rw [List.size_toArray, ← hl]
      exact Option.some.inj h1
    exact PySem.W.ki_setBack ho (by omega) (by rw [List.size_toArray, ← hl]; exact h3) (by omega) (by rw [hk]; exact ⟨_, I', q⟩)
theorem slice_bounds (lo hi : Option Int) (n : Nat) : (sliceBounds lo hi none n).1 = ((HT.sIx n 0 lo : Nat) : Int) ∧ (sliceBounds lo hi none n).2.1 = ((HT.sIx n n hi : Nat) : Int) ∧ (sliceBounds lo hi none n).2.2 = 1 := by
  refine ⟨?_, ?_, rfl⟩
  · cases lo with
    | none => simp [sliceBounds, HT.sIx]
    | some i =>
      simp only [sliceBounds, HT.sIx, Option.getD_none, show (1 : Int) > 0 by decide, if_true]
      by_cases h : i < 0
      · simp only [h, if_true] <;> omega
      · simp only [h, if_false] <;> omega
  · cases hi with
    | none => simp [sliceBounds, HT.sIx]
    | some i =>
      simp only [sliceBounds, HT.sIx, Option.getD_none, show (1 : Int) > 0 by decide, if_true]
      by_cases h : i < 0
      · simp only [h, if_true] <;> omega
      · simp only [h, if_false] <;> omega
theorem slicePick_cut (its : List Value) (lo hi : Option Int) : slicePick its.toArray lo hi none = ((its.drop (HT.sIx its.length 0 lo)).take (HT.sIx its.length its.length hi - HT.sIx its.length 0 lo)).toArray := by
  obtain ⟨h1, h2, h3⟩ := slice_bounds lo hi its.toArray.size
  unfold slicePick
  rw [h1, h2, h3]
  simp only [sliceRange_one, pick_run, List.size_toArray] <;> rfl
def rSlL (K : PySem.W.Frag) : V → Option Int → Option Int → Hp → VK → Prop := fun x lo hi H Q => ∃ a xs, x = .ref a ∧ SqL K H a xs ∧ ∀ p, H p = none → Q (.ref p) (upd H p (.lst (cutV xs lo hi)))
theorem sl_list : SlR X (rSlL X.K) := by
  intro pins s σ H x v vl vu lo hi sl Q I rx hs pl pu h
  obtain ⟨a, xs, rfl, hx, q⟩ := h
  cases rx
  obtain ⟨its, r, ht, hz⟩ := I.list hx
  have hlen := r.length
  refine ⟨"list", _, slot_list_getitem.lookup, ht.isList.typeIs, ?_⟩
  refine wpAny_getItem_list_slice ht.isList hs pl pu .none (by simp) ?_ (by rw [List.size_toArray] <;> omega)
  rw [slicePick_cut, ← hlen]
  refine ⟨.ref s.heap.objs.size, _, I.laid (t' := s.toks) (o := .lst (cutV xs lo hi)) (fun b ob q => Heap.get?_push_of_some _ q) (Nat.le_refl _) ?_, rfl, q _ (I.hok.fresh (Nat.le_refl _))⟩
  exact ⟨Nat.le_trans (cutV_length xs lo hi) hz, _, 0, (r.drop (HT.sIx xs.length 0 lo)).take (HT.sIx xs.length xs.length hi - HT.sIx xs.length 0 lo), Heap.get?_push_size _ rfl⟩
def flatV : V → Bool
  | .non => true
  | .bl _ => true
  | .int _ => true
  | .str _ => true
  | _ => false
def eqV : V → V → Bool
  | .non, .non => true
  | .bl a, .bl b => a == b
  | .bl a, .int b => (if a then 1 else 0) == b
  | .int a, .bl b => a == (if b then 1 else 0)
  | .int a, .int b => a == b
  | .str a, .str b => a == b
  | _, _ => false
theorem eqAt_V {A : Around} {s : Shared} {y x : V} {u v : Value} (ry : RelV y u) (rx : RelV x v) (fy : flatV y = true) (fx : flatV x = true) : SeqAt.EqAt A s u v (eqV y x) := by
  cases y with
  | non =>
    cases ry
    cases x with
    | non => cases rx; exact SeqAt.EqAt.same _
    | bl b => cases rx; exact SeqAt.EqAt.none_bool b
    | int b => obtain ⟨t, rfl⟩ := rx; exact SeqAt.EqAt.none_int b t
    | str b => obtain ⟨t, rfl⟩ := rx; exact SeqAt.EqAt.none_str b t
    | _ => exact absurd (show false = true from fx) Bool.false_ne_true
  | bl a =>
    cases ry
    cases x with
    | non => cases rx; exact SeqAt.EqAt.bool_none a
    | bl b => cases rx; exact SeqAt.EqAt.bool_bool a b
    | int b => obtain ⟨t, rfl⟩ := rx; exact SeqAt.EqAt.bool_int a b t
    | str b => obtain ⟨t, rfl⟩ := rx; exact SeqAt.EqAt.bool_str a b t
    | _ => exact absurd (show false = true from fx) Bool.false_ne_true
  | int a =>
    obtain ⟨t', rfl⟩ := ry
    cases x with
    | non => cases rx; exact SeqAt.EqAt.int_none a t'
    | bl b => cases rx; exact SeqAt.EqAt.int_bool a t' b
    | int b => obtain ⟨t, rfl⟩ := rx; exact SeqAt.EqAt.int_int a t' b t
    | str b => obtain ⟨t, rfl⟩ := rx; exact SeqAt.EqAt.int_str a t' b t
    | _ => exact absurd (show false = true from fx) Bool.false_ne_true
  | str a =>
    obtain ⟨t', rfl⟩ := ry
    cases x with
    | non => cases rx; exact SeqAt.EqAt.str_none a t'
    | bl b => cases rx; exact SeqAt.EqAt.str_bool a t' b
    | int b => obtain ⟨t, rfl⟩ := rx; exact SeqAt.EqAt.str_int a t' b t
    | str b => obtain ⟨t, rfl⟩ := rx; exact SeqAt.EqAt.str_str a t' b t
    | _ => exact absurd (show false = true from fx) Bool.false_ne_true
  | _ => exact absurd (show false = true from fy) Bool.false_ne_true
theorem call_len_seq : CallR X (.builtin "len") (fun xs H Q => ∃ p ys, xs = [.ref p] ∧ (SqL X.K H p ys ∨ SqT X.K H p ys) ∧ Q (.int ys.length) H) := by
  intro pins s σ H xs us Q I r h
  obtain ⟨p, ys, rfl, hq, q⟩ := h
  obtain ⟨u, rfl, rx⟩ := vals1 r
  cases rx
  have hn := line63
  rcases hq with hq | hq
  · obtain ⟨its, r', pl, hz⟩ := I.list hq
    have hlen := r'.length
    exact Calls.call_len_list pl.isList (by simp only [List.size_toArray] <;> omega) ⟨.int ys.length, H, I.tok _, ⟨s.toks + 1, by rw [List.size_toArray, hlen]⟩, q⟩
  · obtain ⟨its, r', pl, hz⟩ := I.tuple hq
    have hlen := r'.length
    exact len_tuple pl (by simp only [List.size_toArray] <;> omega) ⟨.int ys.length, H, I.tok _, ⟨s.toks + 1, by rw [List.size_toArray, hlen]⟩, q⟩
theorem call_list_of : CallR X (.type "list") (fun xs H Q => ∃ p ys, xs = [.ref p] ∧ (SqL X.K H p ys ∨ SqT X.K H p ys) ∧ ∀ l, H l = none → Q (.ref l) (upd H l (.lst ys))) := by
  intro pins s σ H xs us Q I r h
  obtain ⟨p, ys, rfl, hq, q⟩ := h
  obtain ⟨u, rfl, rx⟩ := vals1 r
  cases rx
  have fin : ∀ (its : List Value), Vals ys its → ys.length ≤ sizeLine → ∀ (h' : Heap) (c' : Nat), (∀ b o', s.heap.get? b = some o' → h'.get? b = some o') →
      h'.get? s.heap.objs.size = some { cls := .type "list", dict := none, data := .seq its.toArray c', slots := #[] } → EP X pins σ Q (.ref s.heap.objs.size) { s with heap := h' } := fun its r' hz h' c' kp e =>
    ⟨.ref s.heap.objs.size, _, I.laid (t' := s.toks) kp (Nat.le_refl _) (show ObjOk X.prog X.w _ h' _ (.lst ys) from ⟨hz, its, c', r', e⟩), rfl, q _ (I.hok.fresh (Nat.le_refl _))⟩
  rcases hq with hq | hq
  · obtain ⟨its, r', pl, hz⟩ := I.list hq
    have hlen := r'.length
    obtain ⟨o, ho, hc, n, hd⟩ := pl.isList
    exact call_list_seq p (.inl rfl) ho hc hd (fun h' c' kp e => fin its r' hz h' c' kp e) (by simp only [List.size_toArray] <;> omega)
  · obtain ⟨its, r', pl, hz⟩ := I.tuple hq
    have hlen := r'.length
    obtain ⟨o, ho, hc, n, hd⟩ := pl
    exact call_list_seq p (.inr rfl) ho hc hd (fun h' c' kp e => fin its r' hz h' c' kp e) (by simp only [List.size_toArray] <;> omega)
theorem call_tuple_of : CallR X (.type "tuple") (fun xs H Q => ∃ p ys, xs = [.ref p] ∧ ((SqL X.K H p ys ∧ ∀ l, H l = none → Q (.ref l) (upd H l (.tup ys))) ∨ (SqT X.K H p ys ∧ Q (.ref p) H))) := by
  intro pins s σ H xs us Q I r h
  obtain ⟨p, ys, rfl, h⟩ := h
  obtain ⟨u, rfl, rx⟩ := vals1 r
  cases rx
  rcases h with ⟨hq, q⟩ | ⟨hq, q⟩
  · obtain ⟨its, r', pl, hz⟩ := I.list hq
    have hlen := r'.length
    refine call_tuple_list pl.isList (fun h' kp => ?_) (by simp only [List.size_toArray] <;> omega)
    have I1 : Inv X pins σ H { s with heap := h' } := I.kept (t' := s.toks) kp
    have I2 : Inv X pins σ (upd H h'.objs.size (.tup ys)) { s with heap := h'.push { cls := .type "tuple", data := .seq its.toArray } } :=
      I1.laid (t' := s.toks) (fun b o e => Heap.get?_push_of_some _ e) (Nat.le_refl _) (show ObjOk X.prog X.w _ _ _ (.tup ys) from ⟨hz, its, r', TupX.new _ _⟩)
    exact ⟨.ref h'.objs.size, _, I2, rfl, q _ (I1.hok.fresh (Nat.le_refl _))⟩
  · obtain ⟨its, r', pl, hz⟩ := I.tuple hq
    exact call_tuple_same pl ⟨.ref p, H, I, rfl, q⟩
def tyV (K : PySem.W.Frag) (T : String) (x : V) (H : Hp) : Prop := match x with
  | .str _ => T = "str"
  | .int _ => T = "int"
  | .ref p => (T = "list" ∧ ∃ xs, SqL K H p xs) ∨ (T = "tuple" ∧ ∃ o, K.lookup p = some o ∧ o.cls = .type "tuple" ∧ o.dict = none) ∨
      (T = "dict" ∧ ((∃ kvs, H p = some (.dK kvs)) ∨ ∃ kvs, H p = some (.dT kvs))) ∨ (T = "set" ∧ ∃ S n, H p = some (.set S n))
  | _ => False
theorem tyV_is {pins : List (Addr × Obj)} {σ : St} {H : Hp} {s : Shared} {T : String} {x : V} {v : Value} (I : Inv X pins σ H s) (r : RelV x v) (ty : tyV X.K T x H) :
    s.TypeIs v T ∧ ∀ a, v = .ref a → ∃ ob, s.heap.get? a = some ob ∧ ob.dict = none := by
  cases x with
  | str z =>
    obtain ⟨t, rfl⟩ := r
    cases (show T = "str" from ty)
    exact ⟨typeIs_str s z t, fun _ e => nomatch e⟩
  | int i =>
    obtain ⟨t, rfl⟩ := r
    cases (show T = "int" from ty)
    exact ⟨typeIs_int s i t, fun _ e => nomatch e⟩
  | ref p =>
    cases r
    rcases ty with ⟨rfl, xs, hq⟩ | ⟨rfl, o, hk, hc, hd⟩ | ⟨rfl, hk⟩ | ⟨rfl, S, n, hk⟩
    · obtain ⟨its, _, pl, _⟩ := I.list hq
      refine ⟨pl.isList.typeIs, fun a e => ?_⟩
      cases e
      obtain ⟨o, n, e, c, hd, _⟩ := pl
      exact ⟨o, e, hd⟩
    · refine ⟨⟨o, I.kIn p o hk, hc⟩, fun a e => ?_⟩
      cases e
      exact ⟨o, I.kIn _ o hk, hd⟩
    · have z : ∃ o, s.heap.get? p = some o ∧ o.ExactDict := by
        rcases hk with ⟨kvs, hk⟩ | ⟨kvs, hk⟩
        · obtain ⟨_, _, _, _, o, _, _, e, ex, _⟩ := I.hok p _ hk
          exact ⟨o, e, ex⟩
        · obtain ⟨_, _, _, _, o, _, _, e, ex, _⟩ := I.hok p _ hk
          exact ⟨o, e, ex⟩
      obtain ⟨o, e, ex⟩ := z
      refine ⟨⟨o, e, ex.1⟩, fun a e2 => ?_⟩
      cases e2
      exact ⟨o, e, ex.2.1⟩
    · obtain ⟨o, _, _, _, e, ex, _⟩ := I.hok p _ hk
      refine ⟨⟨o, e, ex.1⟩, fun a e2 => ?_⟩
      cases e2
      exact ⟨o, e, ex.2.1⟩
  | _ => exact False.elim ty
def tBM (K : PySem.W.Frag) (T : String) (r : V → List V → Hp → VK → Prop) (to : TE) (t : TA) : TE := fun σ H Q => to σ H fun x H1 => tyV K T x H1 ∧ t σ H1 fun xs H2 => r x xs H2 Q
variable {o e : Expr} {es : List Expr} {to : TE} {t : TA} {name : Str} {apos cpos : Pos} {T id : String} {r : V → List V → Hp → VK → Prop}
theorem pe_bm (pa : PlainAttrs T) (slot : Slot T name id) (hty : typeOf (.builtin id) = pure (.type "method_descriptor")) (hm : MtR X id r) (ho : PE X o to) (ha : PA X (e :: es) t)
    (hbase : attributeBase o name X.env (eval o X.env) = eval o X.env := by rfl)
    (hfew : ((backTo cpos (starEach (e :: es) X.env)).all (fun x => !x.1) && (backToKw cpos (keywordEach [] X.env)).all (fun x => x.1.isSome)
      && decide ((e :: es).length + ([] : List Keyword).length + (if ([] : List Keyword).isEmpty then 0 else 1) < 30)) = true := by rfl)
    (hline : (apos.endLine == cpos.line) = true := by rfl) (hs : starEach (e :: es) X.env = (false, eval e X.env) :: starEach es X.env := by rfl) (hplain : (backTo cpos (starEach es X.env)).any (·.1) = false := by rfl) :
    PE X (.Call (.Attribute o name apos) (e :: es) [] cpos) (tBM X.K T r to t) := by
  intro pins s σ H Q I h
  refine wpAny_Call_method_late hbase hfew hline rfl (thn (ho pins s σ H _ I h) fun v s1 ⟨x, H1, I1, r1, ty, q1⟩ => ?_)
  obtain ⟨h1, h2⟩ := tyV_is I1 r1 ty
  refine ⟨T, id, pa, slot, hty, h1, h2, ?_⟩
  have hA := ha cpos pins s1 σ H1 _ I1 q1
  rw [hs] at hA ⊢
  refine Calls.callWith_builtin (by show (false || (backTo cpos (starEach es X.env)).any (·.1)) = false; rw [hplain] <;> rfl) (Calls.evalArgs_plain ?_)
  exact thn hA fun us s2 ⟨vs, H2, I2, r2, q2⟩ => hm pins s2 σ H2 x vs v us Q I2 r1 r2 q2
/- xs.append(e), list.index on a module's tuple .. are MtR facts of 06m -/
end
end L2

namespace L2
open PySem PySem.Spec PyProof.Rows

def MtM (X : Cx) (id : String) (r : V → List V → Hp → VK → Prop) : Prop :=
  ∀ (pins : List (Addr × Obj)) (s : Shared) (σ : St) (H : Hp) (x : V) (xs : List V) (v : Value) (us : List Value) (Q : VK), Inv X pins σ H s → RelV x v → Vals xs us → r x xs H Q →
    wpAny (model X.prog X.w) X.A (call (.builtin id) (v :: us)) (EP X pins σ Q) X.xe s
theorem Vals.one : ∀ {x : V} {us : List Value}, Vals [x] us → ∃ u, us = [u] ∧ RelV x u
  | _, _, .cons r .nil => ⟨_, rfl, r⟩
theorem Vals.two : ∀ {x y : V} {us : List Value}, Vals [x, y] us → ∃ u v, us = [u, v] ∧ RelV x u ∧ RelV y v
  | _, _, _, .cons r (.cons q .nil) => ⟨_, _, rfl, r, q⟩
theorem Vals.eraseIdx : ∀ {xs : List V} {us : List Value} (i : Nat), Vals xs us → Vals (xs.eraseIdx i) (us.eraseIdx i)
  | _, _, _, .nil => .nil
  | _, _, 0, .cons _ t => t
  | _, _, i + 1, .cons r t => .cons r (Vals.eraseIdx i t)
theorem Vals.reverse {xs : List V} {us : List Value} (h : Vals xs us) : Vals xs.reverse us.reverse := by
  induction h with
  | nil => exact .nil
  | cons r t ih => rw [List.reverse_cons, List.reverse_cons]; exact Vals.append ih (.cons r .nil)
theorem Vals.rep {xs : List V} {us : List Value} (h : Vals xs us) : ∀ k : Nat, Vals (List.replicate k xs).flatten (List.replicate k us).flatten
  | 0 => .nil
  | k + 1 => by
    rw [List.replicate_succ, List.replicate_succ, List.flatten_cons, List.flatten_cons]
    exact Vals.append h (Vals.rep h k)
theorem len_erase {α : Type} : ∀ (l : List α) (i : Nat), (l.eraseIdx i).length ≤ l.length
  | [], _ => Nat.le_refl _
  | _ :: _, 0 => Nat.le_succ _
  | _ :: r, i + 1 => Nat.succ_le_succ (len_erase r i)
theorem foldl_rep (its : List Value) : ∀ (k : Nat) (acc : List Value),
    List.foldl (fun x1 x2 => x1 ++ x2) acc.toArray (List.replicate k its.toArray) = (acc ++ (List.replicate k its).flatten).toArray
  | 0, acc => by simp
  | k + 1, acc => by
    have e : acc.toArray ++ its.toArray = (acc ++ its).toArray := by simp
    have e2 : (acc ++ its) ++ (List.replicate k its).flatten = acc ++ (List.replicate (k + 1) its).flatten := by
      rw [List.replicate_succ, List.flatten_cons, List.append_assoc]
    rw [← e2, ← foldl_rep its k (acc ++ its), ← e, List.replicate_succ, List.foldl_cons]

section
variable {X : Cx} {pins : List (Addr × Obj)} {σ : St} {H : Hp} {s : Shared} {l b : Addr} {xs ys zs : List V}
theorem Inv.lset {its its' : List Value} {n : Nat} {f : Array Value → Array Value} {t' : Nat} (I : Inv X pins σ H s) (hH : H l = some (.lst xs))
    (e : s.heap.get? l = some { cls := .type "list", data := .seq its.toArray n }) (hf : f its.toArray = its'.toArray) (hv : Vals ys its') (hz : ys.length ≤ sizeLine) :
    Inv X pins σ (upd H l (.lst ys)) { s with heap := s.heap.update l (Obj.mapSeq f), toks := t' } := by
  have q := PySem.IsL.update e f
  rw [hf] at q
  refine I.write (x := l) (e := l) (by rw [hH]; exact trivial) (.inl rfl) (fun b' u hb hu => (Heap.get?_update_other s.heap (Obj.mapSeq f) (Ne.symm hb)).trans hu) ⟨_, q⟩ ?_
  exact ⟨hz, its', _, hv, q⟩
theorem Inv.lnew {its : List Value} {t' : Nat} (I : Inv X pins σ H s) (hv : Vals ys its) (hz : ys.length ≤ sizeLine) :
    Inv X pins σ (upd H s.heap.objs.size (.lst ys)) { s with heap := s.heap.push { cls := .type "list", data := .seq its.toArray }, toks := t' } :=
  I.laid (fun _ _ q => Heap.get?_push_of_some _ q) (Nat.le_refl _) ⟨hz, its, 0, hv, Heap.get?_push_size _ rfl⟩
theorem Inv.fresh (I : Inv X pins σ H s) : H s.heap.objs.size = none := I.hok.fresh (Nat.le_refl _)
theorem Inv.lstM (I : Inv X pins σ H s) (hH : H l = some (.lst xs)) : xs.length ≤ sizeLine ∧ ∃ (its : List Value) (n : Nat), Vals xs its ∧ xs.length = its.length ∧ s.heap.get? l = some { cls := .type "list", data := .seq its.toArray n } := by
  obtain ⟨z, its, n, r, e⟩ := I.hok l _ hH
  exact ⟨z, its, n, r, r.length, e⟩

theorem notLongL {n : Nat} (h : n ≤ sizeLine) : Builtin.List.listTooLong n = false := by
  unfold Builtin.List.listTooLong
  exact decide_eq_false (by omega)
end

section
variable {X : Cx}
def rAppend : V → List V → Hp → VK → Prop := fun x vs H Q => ∃ l xs y, x = .ref l ∧ vs = [y] ∧ H l = some (.lst xs) ∧ xs.length < sizeLine ∧ Q .non (upd H l (.lst (xs ++ [y])))
theorem mt_append : MtM X "list.append" rAppend := by
  intro pins s σ H x vs v us Q I rx rv h
  obtain ⟨l, xs, y, rfl, rfl, hH, hz, q⟩ := h
  cases rx
  obtain ⟨u, rfl, ru⟩ := rv.one
  obtain ⟨z, its, n, r, hl, e⟩ := I.lstM hH
  refine call_meets F.slot_list_append ⟨_, e, rfl⟩ F.entry_list_append (F.args_list_append_2 _ _) (PySem.list_append l its.toArray n u (by rw [List.size_toArray]; omega)) ⟨e, ?_⟩
  refine ⟨.non, _, I.lset (its' := its ++ [u]) hH e (by simp) (r.append (.cons ru .nil)) ?_, rfl, q⟩
  rw [List.length_append, List.length_singleton]
  omega

def rPopAt : V → List V → Hp → VK → Prop := fun x vs H Q => ∃ l xs i k y, x = .ref l ∧ vs = [.int i] ∧ H l = some (.lst xs) ∧ -(2 ^ 63) ≤ i ∧ i < 2 ^ 63 ∧ seqIndex? i xs.length = some k ∧ xs[k]? = some y ∧ Q y (upd H l (.lst (xs.eraseIdx k)))
theorem mt_popAt : MtM X "list.pop" rPopAt := by
  intro pins s σ H x vs v us Q I rx rv h
  obtain ⟨l, xs, i, k, y, rfl, rfl, hH, h1, h2, hk, hy, q⟩ := h
  cases rx
  obtain ⟨u, rfl, ru⟩ := rv.one
  obtain ⟨t, rfl⟩ := ru
  obtain ⟨z, its, n, r, hl, e⟩ := I.lstM hH
  obtain ⟨w, hw, rw'⟩ := r.get hy
  refine call_meets F.slot_list_pop ⟨_, e, rfl⟩ F.entry_list_pop (F.args_list_pop_2 _ _)
    (MeetsSeq.list_pop_at l its.toArray n i t k w (fitsIndex_both h1 h2) (by rw [List.size_toArray, ← hl]; exact hk) (by rw [← Array.getElem?_toList]; exact hw) (by rw [List.size_toArray]; omega)) ⟨e, ?_⟩
  refine ⟨y, _, I.lset (its' := its.eraseIdx k) hH e ?_ (r.eraseIdx k) ?_, rw', q⟩
  · show its.toArray.eraseIdxIfInBounds k = (its.eraseIdx k).toArray
    rw [List.eraseIdxIfInBounds_toArray]
  · have := len_erase xs k
    omega
def rCat : R2 := fun x y H Q => ∃ l b xs zs, x = .ref l ∧ y = .ref b ∧ H l = some (.lst xs) ∧ H b = some (.lst zs) ∧ xs.length + zs.length ≤ sizeLine ∧ ∀ p, H p = none → Q (.ref p) (upd H p (.lst (xs ++ zs)))
theorem op_cat : OpR X (binaryOp .Add) rCat := by
  intro pins s σ H x y v u Q I rx ry h
  obtain ⟨l, b, xs, zs, rfl, rfl, hH, hB, hz, q⟩ := h
  cases rx
  cases ry
  obtain ⟨z, its, n, r, hl, e⟩ := I.lstM hH
  obtain ⟨z2, its2, n2, r2, hl2, e2⟩ := I.lstM hB
  refine PySem.P.add_list e e2 ?_ (by rw [List.size_toArray, List.size_toArray]; omega)
  have ea : its.toArray ++ its2.toArray = (its ++ its2).toArray := by simp
  rw [ea]
  exact ⟨.ref _, _, I.lnew (t' := s.toks) (r.append r2) (by rw [List.length_append]; omega), rfl, q _ I.fresh⟩
def rRep : R2 := fun x y H Q => ∃ l k xs, x = .ref l ∧ y = .int k ∧ H l = some (.lst xs) ∧ -(2 ^ 63) ≤ k ∧ k < 2 ^ 63 ∧ xs.length * k.toNat ≤ sizeLine ∧
  ∀ p, H p = none → Q (.ref p) (upd H p (.lst (List.replicate k.toNat xs).flatten))
theorem len_rep {α : Type} (xs : List α) (k : Nat) : (List.replicate k xs).flatten.length = k * xs.length := by
  induction k with
  | zero => simp
  | succ k ih => rw [List.replicate_succ, List.flatten_cons, List.length_append, ih, Nat.succ_mul, Nat.add_comm]
theorem op_rep : OpR X (binaryOp .Mult) rRep := by
  intro pins s σ H x y v u Q I rx ry h
  obtain ⟨l, k, xs, rfl, rfl, hH, h1, h2, hz, q⟩ := h
  cases rx
  obtain ⟨t, rfl⟩ := ry
  obtain ⟨z, its, n, r, hl, e⟩ := I.lstM hH
  have hlen : its.toArray.size * k.toNat ≤ sizeLine := by rw [List.size_toArray, ← hl]; exact hz
  have hcap : ¬ its.toArray.size * k.toNat > (2 ^ 63 - 1) / 8 := by
    have : (sizeLine : Nat) ≤ (2 ^ 63 - 1) / 8 := by decide
    omega
  have hfit : ¬ (!Builtin.List.listFitsIndex k) = true := by
    rw [fitsIndex_both h1 h2]
    exact Bool.false_ne_true
  have hlong : ¬ Builtin.List.listTooLong (its.toArray.size * k.toNat) = true := by
    rw [notLongL hlen]
    exact Bool.false_ne_true
  have hnew : List.foldl (fun x1 x2 => x1 ++ x2) #[] (List.replicate (if its.toArray.isEmpty = true then 0 else k.toNat) its.toArray) = (List.replicate k.toNat its).flatten.toArray := by
    have f0 : ∀ m : Nat, List.foldl (fun x1 x2 => x1 ++ x2) #[] (List.replicate m its.toArray) = (List.replicate m its).flatten.toArray := fun m => by
      have := foldl_rep its m []
      rw [List.nil_append] at this
      exact this
    rw [f0]
    cases its with
    | nil => simp
    | cons a r' => rw [if_neg (by simp)]
  refine wpAny_binaryOp_repeat_ref (T := "list") (U := "int") (by decide) ⟨_, e, rfl⟩ (fun s' => typeIs_int s' k t) noFill_list_mul F.fills_int_mul F.slot_int_rmul repeat_list F.slot_int_index.lookup
    (call_meets F.slot_int_rmul (typeIs_int s k t) F.entry_int_rmul (F.args_int_rmul_2 _ _) (int___rmul___int_list k t l its.toArray n)
      ⟨e, rfl, ⟨_, e, rfl⟩, call_meets F.slot_list_mul ⟨_, e, rfl⟩ F.entry_list_mul (F.args_list_mul_2 _ _) (AutoListH.list___mul___list_int_3 l its.toArray n k t hfit hcap hlong) ⟨e, ?_⟩⟩)
  rw [hnew]
  exact ⟨.ref _, _, I.lnew (t' := s.toks) (r.rep k.toNat) (by rw [len_rep, Nat.mul_comm]; exact hz), rfl, q _ I.fresh⟩
end
section
variable {prog : Program} {w : World} {A : Around} {E : Value → Shared → Prop} {s : Shared}
end

section
variable {X : Cx}
end
end L2

namespace Att
open PySem PySem.W PySem.Calls PyProof.Rows
theorem ints_of_wellAll {P : Params} {h : Heap} : ∀ (ns : List Int) (vs : List Value), WellAll P h vs (ns.map WData.int) → IntsAre vs ns := by
  intro ns
  induction ns with
  | nil =>
    intro vs w
    rw [List.map_nil] at w
    cases w
    exact .nil
  | cons n ns ih =>
    intro vs w
    rw [List.map_cons] at w
    cases w with
    | cons a b =>
      cases a
      exact .cons _ _ (ih _ b)

theorem script_of {l : OpenLaw} {n : Nat} (hn : l.most = some n) {P : Params} {h : Heap} {args : List WData} {vals : List Value}
    (hpre : l.row.toRowW.claim.pre args = true) (hwl : WellAll P h vals args) :
    ∃ a vs ns, vals = [Value.ref a] ∧ args = [WData.list (ns.map WData.int)] ∧ h.get? a = some { cls := .type "list", data := .seq vs.toArray } ∧ IntsAre vs ns ∧ ns.length ≤ n := by
  have hsh : WShape.hasAll [] args [.list .int] = true := (pre_splitW hpre).1
  have hc : l.pre.holds [] { args := args } = true := (pre_splitW hpre).2
  obtain ⟨d, r, rfl, h1, h2⟩ := hasAllW_cons hsh
  obtain rfl := hasAllW_nil h2
  obtain ⟨xs, rfl, h3⟩ := hasW_list h1
  obtain ⟨ns, rfl⟩ := items_int h3
  have hlen : ns.length ≤ n := by
    unfold OpenLaw.pre at hc
    have h4 : (WTm.not (.lt (.lit (.int (n : Int))) (.len (.arg 0)))).holds [] { args := [.list (ns.map .int)] } = true := by
      have h4 := (holds_andW hc).1
      rw [hn] at h4
      exact h4
    have h5 := condW_of h4 (w_not (w_lt w_lit (w_len_list (w_arg rfl))))
    rw [List.length_map] at h5
    refine Nat.le_of_not_lt fun q => ?_
    have q' : (n : Int) < ((ns.length : Nat) : Int) := by omega
    first
      | (rw [decide_eq_true q'] at h5; exact absurd h5 (by decide))
      | (simp at h5; omega)
  cases hwl with
  | cons w1 w2 =>
    cases w2
    cases w1 with
    | list ho hall => exact ⟨_, _, ns, rfl, rfl, ho, ints_of_wellAll ns _ hall, hlen⟩

theorem post_true (l : OpenLaw) (args : List WData) : l.row.toRowW.claim.post args (.bool true) args = true :=
  postW_of (r := l.row.toRowW) (X := (true == true))
    (show WShape.has [] (.bool true) .bool = true by first | rfl | decide | simp [WShape.has, WShape.arms, WShape.armsAll])
    (show (WTm.eq .res (.lit (.bool true))).value [] { args := args, res := some (.bool true), after := args } = some (.bool (true == true)) from w_eq_bool (w_res rfl) w_lit) rfl
theorem attach_call {l : OpenLaw} {n : Nat} {q : Program} {loose : List Str} {XP : (Str → Option Value) → Heap → Prop} {YP : World → Heap → Prop} {d : DefRec}
    (hn : l.most = some n) (hdf : d.params.defaults = [])
    (call : ∀ (w : World) (s₀ s₁ : Shared) (mg mb : Str → Option Value) (fa : Addr) (o : Obj) (pm cd doc : Value) (a : Addr) (vs : List Value) (ns : List Int),
      Ground q loose [] XP w s₀ mg mb s₁.heap → YP w s₁.heap →
      s₁.heap.get? fa = some o → o.data = .func (docDef d.name d.params d.body d.scope pm cd doc) → s₁.heap.CodeRec cd d.name → mg d.name = some (.ref fa) →
      s₁.heap.get? a = some { cls := .type "list", data := .seq vs.toArray } → IntsAre vs ns → ns.length ≤ n → s₁.gens = #[] →
      codeAny (model l.prog w) callerA (.call (.ref fa) ⟨[.ref a], []⟩) (fun r s' => r = .ok (.ret (.bool true)) ∧ OldK s₁.heap s'.heap ∧ s'.os = s₁.os ∧ AllBare s'.gens) s₁) :
    WalkO q loose XP YP l.row.toRowW d [] (fun f vs => PySem.call f vs) := by
  intro w s₀ s₁ mg mb G Y fa o pm cd doc dV kV ho hd hcd hD hmg hg args vals as hpre hlay hrd hwl hlo
  obtain rfl : dV = .none := Dflts.none hD hdf
  obtain rfl : kV = .none := Dflts.noKw hD
  obtain ⟨a, vs, ns, rfl, rfl, hobj, hints, hlen⟩ := script_of hn hpre hwl
  refine enter_call (codeAny_mono (call w s₀ s₁ mg mb fa o pm cd doc a vs ns G Y ho (fd_plain hd) hcd hmg hobj hints hlen hg) fun r s' hq => ?_)
  obtain ⟨rfl, h2, h3, h4⟩ := hq
  exact ⟨.inl ⟨.bool true, .bool true, [], rfl, fun _ => rfl, .bool true, post_true l _, fun _ => ⟨List.Pairwise.nil, fun _ hm => (nomatch hm)⟩⟩, h2, h3, h4⟩
section
variable {prog : Program} {w : World} {A : Around} {E : Value → Shared → Prop} {s : Shared} {K : Frag}
def ledger (h : Heap) (L d : Addr) : List (Addr × Obj) := (List.range h.objs.size).filterMap fun a => if a = L ∨ a = d then none else (h.get? a).map fun o => (a, o)
end
end Att

namespace L2
open PySem PySem.Spec PyProof.Rows

theorem vals_ints : ∀ {vs : List Value} {ns : List Int}, IntsAre vs ns → Vals (ns.map V.int) vs
  | _, _, .nil => .nil
  | _, _, .cons n t h => .cons ⟨t, rfl⟩ (vals_ints h)
def Only (H : Hp) : Prop := ∀ b, H b = none ∨ ∃ o xs, H b = some (.frz o (.lst xs))
theorem law_call {P : Program} {w : World} {K : PySem.W.Frag} {mg mb : Str → Option Value} {CX : CXT} {k : Nat} {fa a : Addr} {fd : FuncData} {x : Str} {sp : Sp} {s₁ : Shared} {vs : List Value} {ns : List Int}
    (KX : K.In s₁.heap) (hns : s₁.heap.Ns mainGlobals mg) (hb : s₁.heap.Ns builtinsNs mb) (hbb : ∀ x : Str, x ≠ "__name__" → mb x = bootBuiltins x) (hlim : s₁.heap.NoLimit) (hg : s₁.gens = #[])
    (ha : s₁.heap.get? a = some { cls := .type "list", data := .seq vs.toArray }) (hi : IntsAre vs ns) (hl : ns.length ≤ sizeLine) (hr : Room k callerA)
    (F : ∀ base : Heap, K.In base → base.Ns mainGlobals mg → FnOk P w K mg base CX k fa fd [x] sp) (hbind : ∀ (s : Shared) (u : Value), BindsTo s fd ⟨[u], []⟩ [(x, u)])
    (hsp : ∀ H : Hp, Only H → SqL K H a (ns.map V.int) → sp [.ref a] H (fun v _ => v = .bl true) fun _ _ _ => False)
    (hCX : ∀ H e s', CX [] H s₁ (fun _ _ _ => False) e s' → False) :
    codeAny (model P w) callerA (.call (.ref fa) ⟨[.ref a], []⟩) (fun r s' => r = .ok (.ret (.bool true)) ∧ OldK s₁.heap s'.heap ∧ s'.os = s₁.os ∧ AllBare s'.gens) s₁ := by
  have rv := vals_ints hi
  have lenV := hi.length
  have core : ∀ H : Hp, Only H → SqL K H a (ns.map V.int) → HOk P w H s₁.heap → (∀ b, H b ≠ none → b = a) → (H a ≠ none → K.lookup a = none) →
      codeAny (model P w) callerA (.call (.ref fa) ⟨[.ref a], []⟩) (fun r s' => r = .ok (.ret (.bool true)) ∧ OldK s₁.heap s'.heap ∧ s'.os = s₁.os ∧ AllBare s'.gens) s₁ := by
    intro H hO hS hok hA hK
    have base_of : ∀ {b : Addr} {o : Obj}, s₁.heap.get? b = some o → H b = none → (hidT s₁.heap H).get? b = some o := fun e n => hidT_get e n
    have noA : ∀ {b : Addr} {o : Obj} {es : Array DictEntry} {ep : Nat}, s₁.heap.get? b = some o → o.data = .dict es ep → H b = none := fun {b o es ep} e d => by
      cases q : H b with
      | none => rfl
      | some u =>
        have e' : b = a := hA b (by rw [q]; simp)
        subst e'
        rw [ha] at e; cases e
        have d' : Data.seq vs.toArray _ = Data.dict es ep := d
        cases d'
    have nsK : ∀ {b : Addr} {m : Str → Option Value}, s₁.heap.Ns b m → (hidT s₁.heap H).Ns b m := fun {b m} ⟨o, es, ep, e, d, r⟩ => ⟨o, es, ep, base_of e (noA e d), d, r⟩
    have hKb : K.In (hidT s₁.heap H) := fun b o e => base_of (KX b o e) (by
      cases q : H b with
      | none => rfl
      | some u =>
        have e' : b = a := hA b (by rw [q]; simp)
        subst e'
        rw [hK (by rw [q]; simp)] at e; cases e)
    have hM : Mod K mg (hidT s₁.heap H) := ⟨hKb, nsK hns, ⟨mb, nsK hb, hbb⟩, let ⟨mc, h1, h2⟩ := hlim; ⟨mc, nsK h1, h2⟩⟩
    have e0 : Env0 P w K mg (hidT s₁.heap H) callerA [] s₁ H := ⟨rfl, hM, fun b o e => of_hidT e, Nat.le_of_eq (hidT_size _ _), trivial, fun b hb => absurd (show b ∈ ([] : List Addr) from hb) (by simp), hok, .of_eq hg⟩
    refine codeAny_mono ((F _ hKb (nsK hns)).run callerA [] s₁ H ⟨[.ref a], []⟩ [.ref a] [.ref a] _ _ hr e0 (hbind s₁ (.ref a)) (.cons rfl .nil) (hsp H hO hS)) fun r s' h => ?_
    cases r with
    | error e => exact (hCX H e s' h).elim
    | ok fl =>
      cases fl with
      | next => exact False.elim h
      | brk => exact False.elim h
      | cont => exact False.elim h
      | ret u =>
        obtain ⟨v, H', os, bare, un, hok', r', q⟩ := h
        have q' : v = .bl true := q
        subst q'
        obtain rfl : u = Value.bool true := r'
        refine ⟨rfl, OldK.of_keep fun b o e => ?_, os, bare⟩
        cases q : H b with
        | none => exact un.keep b o e q (by intro z; exact absurd (show b ∈ ([] : List Addr) from z) (by simp)) (by simp)
        | some u =>
          rcases hO b with z | ⟨ob, xs, z⟩
          · rw [q] at z; cases z
          · have z2 := un.frzs b ob _ z
            obtain ⟨e1, _⟩ := hok b _ z
            obtain ⟨e2, _⟩ := hok' b _ z2
            rw [e] at e1; cases e1
            exact e2
  cases hk : K.lookup a with
  | some o =>
    have e := KX a o hk
    rw [ha] at e
    cases e
    refine core (fun _ => none) (fun _ => .inl rfl) (.inr ⟨_, vs.toArray, _, hk, rfl, rfl, rfl, by rw [List.size_toArray, lenV]; exact hl, by simpa using rv⟩) (fun b u z => by have z' : (none : Option HO) = some u := z; cases z') (fun b z => absurd rfl z) fun z => absurd rfl z
  | none =>
    refine core (fun b => if b = a then some (.frz { cls := .type "list", data := .seq vs.toArray } (.lst (ns.map V.int))) else none) (fun b => ?_) (.inl (.inr ⟨{ cls := .type "list", data := .seq vs.toArray }, if_pos rfl⟩)) (fun b u z => ?_) (fun b z => ?_) fun _ => hk
    · by_cases hb : b = a
      · exact .inr ⟨_, _, if_pos hb⟩
      · exact .inl (if_neg hb)
    · by_cases hb : b = a
      · have z' := (if_pos hb).symm.trans z
        cases z'
        subst hb
        exact ⟨ha, by rw [List.length_map]; exact hl, vs, _, rv, ha⟩
      · have z' := (if_neg hb).symm.trans z
        cases z'
    · by_cases hb : b = a
      · exact hb
      · exact absurd (if_neg hb) z
end L2

namespace L2
open PySem PySem.Spec PyProof.Rows

abbrev KOf {K : PySem.W.Frag} {h : Heap} (_ : K.In h) : PySem.W.Frag := K
theorem walk_of {l : PySem.W.OpenLaw} {n k : Nat} {q : Program} {loose : List Str} {XP : (Str → Option Value) → Heap → Prop} {YP : World → Heap → Prop} {d : DefRec} {K : Params → PySem.W.Frag} {CX : World → CXT} {sp : World → Sp} {x : Str}
    (hn : l.most = some n) (hn2 : n ≤ sizeLine) (hdf : d.params.defaults = []) (hr : Room k callerA)
    (hY : ∀ (w : World) (h : Heap), YP w h → (K w.params).In h)
    (F : ∀ (w : World) (mg : Str → Option Value) (fa : Addr) (h : Heap), (K w.params).In h → h.Ns mainGlobals mg → mg d.name = some (.ref fa) →
      ∃ fd : FuncData, (∀ (s : Shared) (u : Value), BindsTo s fd ⟨[u], []⟩ [(x, u)]) ∧
        ∀ base : Heap, (K w.params).In base → base.Ns mainGlobals mg → FnOk l.prog w (K w.params) mg base (CX w) k fa fd [x] (sp w))
    (hsp : ∀ (w : World) (H : Hp) (a : Addr) (ns : List Int), ns.length ≤ n → Only H → SqL (K w.params) H a (ns.map V.int) → sp w [.ref a] H (fun v _ => v = .bl true) fun _ _ _ => False)
    (hCX : ∀ (w : World) (H : Hp) (s : Shared) (e : Value) (s' : Shared), CX w [] H s (fun _ _ _ => False) e s' → False) :
    PySem.W.WalkO q loose XP YP l.row.toRowW d [] (fun f vs => PySem.call f vs) := by
  refine Att.attach_call hn hdf fun w s₀ s₁ mg mb fa o pm cd doc a vs ns G Y ho hd hcd hmg hobj hints hlen hg => ?_
  have KX := hY w _ Y
  obtain ⟨fd, hb, hF⟩ := F w mg fa _ KX G.T.g hmg
  exact law_call KX G.T.g G.T.b G.T.builtins G.T.nolimit hg hobj hints (Nat.le_trans hlen hn2) hr hF hb (fun H hO hS => hsp w H a ns hlen hO hS) fun H e s' => hCX w H s₁ e s'
theorem walk_ofK {l : PySem.W.OpenLaw} {n k : Nat} {q : Program} {loose : List Str} {XP : (Str → Option Value) → Heap → Prop} {YP : World → Heap → Prop} {d : DefRec} {K : Params → PySem.W.Frag} {CX : CXT} {sp : PySem.W.Frag → Sp} {x : Str}
    (hn : l.most = some n) (hn2 : n ≤ sizeLine) (hdf : d.params.defaults = []) (hr : Room k callerA)
    (hY : ∀ (w : World) (h : Heap), YP w h → (K w.params).In h)
    (F : ∀ (w : World) (mg : Str → Option Value) (fa : Addr) (h : Heap), (K w.params).In h → h.Ns mainGlobals mg → mg d.name = some (.ref fa) →
      ∃ fd : FuncData, (∀ (s : Shared) (u : Value), BindsTo s fd ⟨[u], []⟩ [(x, u)]) ∧
        ∀ base : Heap, (K w.params).In base → base.Ns mainGlobals mg → FnOk l.prog w (K w.params) mg base CX k fa fd [x] (sp (K w.params)))
    (hsp : ∀ (K : PySem.W.Frag) (H : Hp) (a : Addr) (ns : List Int), ns.length ≤ n → Only H → SqL K H a (ns.map V.int) → sp K [.ref a] H (fun v _ => v = .bl true) fun _ _ _ => False)
    (hCX : ∀ (H : Hp) (s : Shared) (e : Value) (s' : Shared), CX [] H s (fun _ _ _ => False) e s' → False) :
    PySem.W.WalkO q loose XP YP l.row.toRowW d [] (fun f vs => PySem.call f vs) :=
  walk_of (K := K) (CX := fun _ => CX) (sp := fun w => sp (K w.params)) hn hn2 hdf hr hY F (fun w H a ns h1 h2 h3 => hsp (K w.params) H a ns h1 h2 h3) fun _ H s e s' => hCX H s e s'
end L2

/- THE LAST THEOREM (shape; LID, My.* are yours):
   My.Adr: a structure of the addresses that your layer names (classes, functions); My.Txt K t: a structure (Prop) of the equations over K;
   My.txt_mk : {K} {implicit addresses ..} (e1 : nsIn K mainGlobals "law" = some (some (.ref f))) (e2 : K.lookup f = some ⟨oc, od, .func (fnOf "law" "law" params body scope dV kV doc pm an cdv ct), sl⟩) (e3 : codeIn K cdv "law" = true) .. : ∃ t, My.Txt K t

set_option maxRecDepth 100000 in
set_option maxHeartbeats 0 in
theorem PySem.Challenge.cw_LID_holds : PySem.Challenge.rw_LID.Holds := by
  w_on; o_law; k_head; (case hw => w_witness2)
  k_fill
  refine L2.walk_of (l := PySem.Challenge.rw_LID) (n := 63) (k := 40) (x := "script") (CX := fun w => ..) (sp := fun _ => My.sp_law) rfl (by decide) rfl ⟨rfl, by decide, by decide⟩ (fun w h Y => PySem.W.kIn_of Y) ?F ?S ?C
  case F =>
    intro w mg fa h KX G hmg
    have T : ∃ t, My.Txt (L2.KOf KX) t := by
      dsimp only [L2.KOf]                          -- K must stand as «<heap const> w.params» for k_is
      refine' My.txt_mk ?e1 ?e2 ?e3 ..
      (case e1 => PySem.W.k_is)                    -- in the order: a name -> its address -> its object -> its parts
      (case e2 => PySem.W.k_is)
      ..
    obtain ⟨t, T⟩ := T
    have e0 := hmg.symm.trans (PySem.W.mg_of KX G T.law)
    cases e0                                       -- fa is the law's own address
    exact ⟨_, fun s u => .of_eq rfl, fun base kb nb => My.law_fn T kb nb⟩     -- if «.of_eq rfl» comes too early: refine' ⟨_, ?b, fun base kb nb => My.law_fn T kb nb⟩; exact fun s u => .of_eq rfl
  case S => exact fun w H a ns hl hO hS => ..
  case C => exact ..
(the tactic k_is has no namespace: write k_is) -/
namespace L2
open PySem PySem.Spec PyProof.Rows
def defArgs (s : Stmt) : Arguments := match s with
  | .FunctionDef _ a _ _ _ _ _ _ _ _ => a
  | _ => { posonlyargs := [], args := [], vararg := none, kwonlyargs := [], kw_defaults := [], kwarg := none, defaults := [] }
def defBody (s : Stmt) : List Stmt := match s with
  | .FunctionDef _ _ b _ _ _ _ _ _ _ => b
  | _ => []
def defScope (s : Stmt) : Scope := match s with
  | .FunctionDef _ _ _ _ _ _ sc _ _ _ => sc
  | _ => { kind := .function, names := [], isGenerator := false, isCoroutine := false }
abbrev CX0 : CXT := fun _ _ _ _ _ _ => False
abbrev E0 : XK := fun _ _ _ => False
theorem pass0 {X : Cx} : Passes CX0 X E0 := fun _ _ _ _ _ _ _ h => h.elim
structure Fun (K : PySem.W.Frag) (x qual : Str) (st : Stmt) (f : Addr) (fd : FuncData) : Prop where
  ex : ∃ (oc : Value) (od : Option Addr) (kV doc pm : Value) (an : Option Addr) (cdv ct : Value) (osl : Array (Option Value)),
    fd = PySem.W.fnOf x qual (defArgs st) (defBody st) (defScope st) .none kV doc pm an cdv ct ∧ K.lookup f = some ⟨oc, od, .func fd, osl⟩ ∧ PySem.W.codeIn K cdv qual = true
  kp : PySem.W.keepIn K (.ref f) = true
section
variable {P : Program} {w : World} {K : PySem.W.Frag} {mg : Str → Option Value} {base : Heap}
theorem Fun.ok {x qual : Str} {st : Stmt} {f : Addr} {fd : FuncData} {N ps : List Str} {k : Nat} {sp : Sp} (F : Fun K x qual st f fd) (S : FnScope N ps (defScope st)) (len : ∀ vs H Q E, sp vs H Q E → vs.length = ps.length)
    (hbody : ∀ (cdv : Value) (A : Around) (outer : List Env) (s : Shared) (H : Hp) (vs : List V) (Q : VK) (E : XK), Room k (A.deeper (envOfC qual (defScope st) s.heap.objs.size f cdv)) → sp vs H Q E →
      ∃ t, PSs (cxOf CX0 P w K mg base N qual (defScope st) f cdv A outer s H E).nox (defBody st) t ∧ t { nx := fun _ H' => Q .non H', rt := Q } (start N vs) H) : FnOk P w K mg base CX0 (k + 1) f fd ps sp := by
  obtain ⟨oc, od, kV, doc, pm, an, cdv, ct, osl, rfl, lk, hcd⟩ := F.ex
  refine fn_of lk hcd S len fun A outer s H vs Q E hr hsp => ?_
  obtain ⟨t, h, q⟩ := hbody cdv A outer s H vs Q E hr hsp
  exact ⟨t, h.nox, q⟩
theorem Fun.binds {x qual : Str} {st : Stmt} {f : Addr} {fd : FuncData} {ps : List Str} (F : Fun K x qual st f fd)
    (h : ∀ (kV doc pm : Value) (an : Option Addr) (cdv ct : Value) (us : List Value), us.length = ps.length → bindArgs (PySem.W.fnOf x qual (defArgs st) (defBody st) (defScope st) .none kV doc pm an cdv ct) ⟨us, []⟩ = pure (ps.zip us)) : Binds K fd ps [] := by
  obtain ⟨oc, od, kV, doc, pm, an, cdv, ct, osl, rfl, lk, hcd⟩ := F.ex
  exact .all (h kV doc pm an cdv ct)
theorem fun_mk {x qual : Str} {st : Stmt} {f : Addr} {oc : Value} {od an : Option Addr} {osl : Array (Option Value)} {kV doc pm cdv ct : Value} (l : K.lookup f = some ⟨oc, od, .func (PySem.W.fnOf x qual (defArgs st) (defBody st) (defScope st) .none kV doc pm an cdv ct), osl⟩)
    (c : PySem.W.codeIn K cdv qual = true) (k : PySem.W.keepIn K (.ref f) = true) : Fun K x qual st f (PySem.W.fnOf x qual (defArgs st) (defBody st) (defScope st) .none kV doc pm an cdv ct) := ⟨⟨oc, od, kV, doc, pm, an, cdv, ct, osl, rfl, l, c⟩, k⟩
end
section
variable {X : Cx}
theorem pv (i : Nat) {x : Str} {pos : Pos} (hN : X.N[i]? = some x := by rfl) (hv : Vis X.env.scope x := by first | exact Or.inl rfl | exact Or.inr (Or.inl rfl) | exact Or.inr (Or.inr rfl)) (hd : (x == ("__debug__" : Str)) = false := by decide)
    (hcd : (x == ("__classdict__" : Str)) = false := by decide) : PE X (.Name x pos) (tVar i) := pe_var hN hv hd hcd
end
theorem iteF {A B : Prop} (h : B) : if false = true then A else B := by
  rw [if_neg Bool.false_ne_true]
  exact h
theorem iteT {A B : Prop} (h : A) : if true = true then A else B := by
  rw [if_pos rfl]
  exact h
theorem ite2 {c A B : Prop} [Decidable c] (h1 : c → A) (h2 : ¬ c → B) : if c then A else B := by
  by_cases h : c
  · rw [if_pos h]
    exact h1 h
  · rw [if_neg h]
    exact h2 h
def Same (H H' : Hp) : Prop := ∀ b o, H b = some o → H' b = some o
theorem Same.refl (H : Hp) : Same H H := fun _ _ h => h
theorem Same.trans {H H1 H2 : Hp} (a : Same H H1) (b : Same H1 H2) : Same H H2 := fun c o h => b c o (a c o h)
end L2
section
set_option maxHeartbeats 4000001
namespace L2
open PySem PySem.Spec PyProof.Rows
def clOf (cells : List (Str × Addr)) : List (Str × NameKind) → List (Str × Addr) → List (Str × Addr)
  | [], cs => cs
  | (n, k) :: r, cs => if k == .free then clOf cells r ((n, (cells.lookup n).getD 0) :: cs) else clOf cells r cs
theorem clOf_run {env : Env} : ∀ (names : List (Str × NameKind)) (cs : List (Str × Addr)), (∀ y ∈ names, y.2 = .free → ∃ c, env.cells.lookup y.1 = some c) →
    (forIn names cs fun x r => match x with | (name, kind) => if (kind == NameKind.free) = true then (do let a ← cellOf env name; pure (ForInStep.yield ((name, a) :: r))) else pure (ForInStep.yield r) : Sem (List (Str × Addr))) = pure (clOf env.cells names cs)
  | [], cs, _ => rfl
  | (n, k) :: r, cs, h => by
    rw [List.forIn_cons]
    by_cases e : (k == NameKind.free) = true
    · obtain ⟨c, hc⟩ := h (n, k) List.mem_cons_self (by simpa using e)
      have hcell : cellOf env n = pure c := by
        have hc' : env.cells.lookup n = some c := hc
        unfold cellOf; rw [hc']
      simp only [e, if_true, hcell, pure_bind]
      rw [clOf_run r _ fun y hy => h y (List.mem_cons_of_mem _ hy)]
      have hc' : env.cells.lookup n = some c := hc
      show _ = pure (if (k == NameKind.free) = true then _ else _)
      rw [if_pos e, hc']
      rfl
    · have ef : (k == NameKind.free) = false := by simpa using e
      simp only [ef, Bool.false_eq_true, if_false, pure_bind]
      rw [clOf_run r _ fun y hy => h y (List.mem_cons_of_mem _ hy)]
      show _ = pure (if (k == NameKind.free) = true then _ else _)
      rw [if_neg e]
theorem closure_eq {scope : Scope} {env : Env} (h : ∀ y ∈ scope.names, y.2 = .free → ∃ c, env.cells.lookup y.1 = some c) : closureFor scope env = pure (clOf env.cells scope.names []) := by
  unfold closureFor
  show (forIn scope.names [] _ >>= fun r => pure r) = _
  rw [bind_pure]
  exact clOf_run _ _ h
theorem clOf_sub {cells : List (Str × Addr)} : ∀ (names : List (Str × NameKind)) (cs : List (Str × Addr)) (x : Str) (c : Addr), (∀ y ∈ names, y.2 = .free → ∃ c, cells.lookup y.1 = some c) →
    (∀ x c, cs.lookup x = some c → cells.lookup x = some c) → (clOf cells names cs).lookup x = some c → cells.lookup x = some c
  | [], cs, x, c, _, hs, e => hs x c e
  | (n, k) :: r, cs, x, c, h, hs, e => by
    unfold clOf at e
    by_cases q : (k == NameKind.free) = true
    · rw [if_pos q] at e
      obtain ⟨c0, hc0⟩ := h (n, k) List.mem_cons_self (by simpa using q)
      refine clOf_sub r _ x c (fun y hy => h y (List.mem_cons_of_mem _ hy)) (fun x' c' e' => ?_) e
      rw [List.lookup_cons] at e'
      cases hx : x' == n with
      | true =>
        rw [hx] at e'
        have hx' : x' = n := by simpa using hx
        subst hx'
        have hc0' : cells.lookup x' = some c0 := hc0
        rw [hc0'] at e' ⊢
        exact e'
      | false =>
        rw [hx] at e'
        exact hs x' c' e'
    · rw [if_neg q] at e
      exact clOf_sub r _ x c (fun y hy => h y (List.mem_cons_of_mem _ hy)) hs e
theorem clOf_keep {cells : List (Str × Addr)} : ∀ (names : List (Str × NameKind)) (cs : List (Str × Addr)) (x : Str), (∃ c, cs.lookup x = some c) → ∃ c, (clOf cells names cs).lookup x = some c
  | [], cs, x, e => e
  | (n, k) :: r, cs, x, e => by
    unfold clOf
    by_cases q : (k == NameKind.free) = true
    · rw [if_pos q]
      refine clOf_keep r _ x ?_
      rw [List.lookup_cons]
      cases hx : x == n with
      | true => exact ⟨_, rfl⟩
      | false => exact e
    · rw [if_neg q]
      exact clOf_keep r _ x e
theorem clOf_has {cells : List (Str × Addr)} : ∀ (names : List (Str × NameKind)) (cs : List (Str × Addr)) (x : Str), names.lookup x = some .free → ∃ c, (clOf cells names cs).lookup x = some c
  | [], cs, x, e => by simp at e
  | (n, k) :: r, cs, x, e => by
    rw [List.lookup_cons] at e
    unfold clOf
    cases hx : x == n with
    | true =>
      rw [hx] at e
      have e' : k = .free := Option.some.inj e
      subst e'
      rw [if_pos (by decide)]
      refine clOf_keep r _ x ?_
      rw [List.lookup_cons, hx]
      exact ⟨_, rfl⟩
    | false =>
      rw [hx] at e
      by_cases q : (k == NameKind.free) = true
      · rw [if_pos q]; exact clOf_has r _ x e
      · rw [if_neg q]; exact clOf_has r _ x e
def asCell (env : Env) (p : Str × NameKind) : Bool := p.2 == .free && env.scope.kind == .function && env.kindOf p.1 == some .cell
def inBlock (env : Env) (p : Str × NameKind) : Str × NameKind := if asCell env p = true then (p.1, .cell) else p
theorem inBlock_fst (env : Env) (p : Str × NameKind) : (inBlock env p).1 = p.1 := by unfold inBlock; split <;> rfl
theorem inBlock_snd (env : Env) (p : Str × NameKind) : (inBlock env p).2 = p.2 ∨ ((inBlock env p).2 = .cell ∧ p.2 = .free) := by
  unfold inBlock
  split
  · rename_i h
    refine .inr ⟨rfl, ?_⟩
    unfold asCell at h
    cases e : p.2 <;> simp [e] at h <;> rfl
  · exact .inl rfl
theorem relabel_names (scope : Scope) (env : Env) : (relabel scope env).names = scope.names.map (inBlock env) := rfl
theorem look_map {f : Str × NameKind → Str × NameKind} (hf : ∀ p, (f p).1 = p.1) : ∀ (l : List (Str × NameKind)) (x : Str), (l.map f).lookup x = none ∧ l.lookup x = none ∨ ∃ p ∈ l, (l.map f).lookup x = some (f p).2 ∧ l.lookup x = some p.2
  | [], _ => .inl ⟨rfl, rfl⟩
  | p :: r, x => by
    have e1 : ((p :: r).map f).lookup x = if x == p.1 then some (f p).2 else (r.map f).lookup x := by
      show List.lookup x (((f p).1, (f p).2) :: r.map f) = _
      rw [List.lookup_cons, hf p]; cases x == p.1 <;> rfl
    have e2 : (p :: r).lookup x = if x == p.1 then some p.2 else r.lookup x := by
      show List.lookup x ((p.1, p.2) :: r) = _
      rw [List.lookup_cons]; cases x == p.1 <;> rfl
    rw [e1, e2]
    cases x == p.1
    · rcases look_map hf r x with z | ⟨q, hq, z⟩
      · exact .inl z
      · exact .inr ⟨q, List.mem_cons_of_mem _ hq, z⟩
    · exact .inr ⟨p, List.mem_cons_self, rfl, rfl⟩
theorem relabel_kind {scope : Scope} {env : Env} {x : Str} {k' : NameKind} (h : (relabel scope env).names.lookup x = some k') : scope.names.lookup x = some k' ∨ (k' = .cell ∧ scope.names.lookup x = some .free) := by
  rw [relabel_names] at h
  rcases look_map (inBlock_fst env) scope.names x with ⟨z, _⟩ | ⟨p, _, z, e⟩
  · rw [z] at h; cases h
  · rw [z] at h
    obtain rfl := Option.some.inj h
    rcases inBlock_snd env p with q | ⟨q, q'⟩
    · rw [q]; exact .inl e
    · exact .inr ⟨q, by rw [e, q']⟩
theorem relabel_free {scope : Scope} {env : Env} {x : Str} (h : scope.names.lookup x = some .free) : (relabel scope env).names.lookup x = some .cell ∨ (relabel scope env).names.lookup x = some .free := by
  rw [relabel_names]
  rcases look_map (inBlock_fst env) scope.names x with ⟨_, z⟩ | ⟨p, _, z, e⟩
  · rw [z] at h; cases h
  · rw [e] at h
    rcases inBlock_snd env p with q | ⟨q, _⟩
    · rw [z, q, h]; exact .inr rfl
    · rw [z, q]; exact .inl rfl
def cxComp (X : Cx) (N' : List Str) (scope : Scope) (C : Addr) (s₀ : Shared) (H₀ : Hp) (fp : List Addr) (pins : List (Addr × Obj)) : Cx :=
  { X with N := N', s₀ := s₀, H₀ := H₀, env := compEnvC scope (clOf X.env.cells scope.names []) C X.env, outer := X.stack, stack := X.stack, ex := fp, fn := fun _ => false, pn := X.pn ++ pins, xe := fun _ _ => False }
def capσ (cap : List (Option Nat)) (σ : St) : St := cap.map fun o => match o with | some i => (match σ[i]? with | some v => v | none => none) | none => none
def tst (M : Model) (A : Around) (env : Env) (E : Value → Shared → Prop) (o : Option Expr) (Q : Bool → Shared → Prop) (s : Shared) : Prop := match o with
  | none => Q true s
  | some c => wpAny M A (isTrue c env (eval c env)) Q E s
theorem tst_mono {M : Model} {A : Around} {env : Env} {E : Value → Shared → Prop} {o : Option Expr} {Q Q' : Bool → Shared → Prop} {s : Shared} (h : tst M A env E o Q s) (k : ∀ b z, Q b z → Q' b z) : tst M A env E o Q' s := by
  cases o with
  | none => exact k _ _ h
  | some c => exact thn h k
def PTo (X : Cx) (o : Option Expr) (t : TT) : Prop :=
  ∀ (pins : List (Addr × Obj)) (s : Shared) (σ : St) (H : Hp) (Q : Bool → Hp → Prop), Inv X pins σ H s → t σ H Q → tst (model X.prog X.w) X.A X.env X.xe o (TP X pins σ Q) s
def tYes : TT := fun _ H Q => Q true H
theorem pt_none {X : Cx} : PTo X none tYes := fun _ _ _ H _ I h => ⟨H, I, h⟩
abbrev NoX : Value → Shared → Prop := fun _ _ => False
def Go (M : Model) (A : Around) (tg elt : Expr) (o : Option Expr) (it acc : Value) (env : Env) (R : Result → Shared → Prop) (onward : Shared → Prop) (s : Shared) : Prop :=
  wpAny M A (pyNext it) (fun r a => match r with
    | none => R (.ok .next) a
    | some v => wpAny M A (letOwnedTupleGo tg it v) (fun _ b => wpAny M A (assign tg env v) (fun _ c => tst M A env NoX o (fun yes d =>
        if yes = true then wpAny M A (eval elt env) (fun x e => wpAny M A (call (.builtin "list.append") [acc, x]) (fun _ f => onward f) NoX e) NoX d else onward d) c) NoX b) NoX a) NoX s
theorem comp_loop {prog : Program} {w : World} {A : Around} {R : Result → Shared → Prop} {s : Shared} {elt tg iter : Expr} {o : Option Expr} {scope : Scope} {pos : Pos} {it acc : Value} {env : Env} (J : Nat → Shared → Prop)
    (turn : ∀ n s, J n s → Go (model prog w) A tg elt o it acc env R (fun z => ∃ m, m < n ∧ J m z) s) (n : Nat) (h : J n s) :
    codeAny (model prog w) A (.compLoop (.ListComp elt [⟨tg, iter, o.toList, 0⟩] scope pos) 0 it acc env) R s := by
  cases o with
  | none =>
    refine PySem.W.kcp_loop J (fun n a ha => wpAny_mono (turn n a ha) (fun r b hb => ?_) fun _ _ z => z.elim) n h
    cases r with
    | none => exact hb
    | some v => exact wpAny_mono hb (fun _ c hc => wpAny_mono hc (fun _ d hd => wpAny_mono (show wpAny _ _ _ _ _ d from hd) (fun x e he => wpAny_mono he (fun _ _ q => q) fun _ _ z => z.elim) fun _ _ z => z.elim) fun _ _ z => z.elim) fun _ _ z => z.elim
  | some t =>
    refine PySem.W.kct_loop J (fun n a ha => wpAny_mono (turn n a ha) (fun r b hb => ?_) fun _ _ z => z.elim) n h
    cases r with
    | none => exact hb
    | some v =>
      refine wpAny_mono hb (fun _ c hc => wpAny_mono hc (fun _ d hd => wpAny_mono (show wpAny _ _ _ _ _ d from hd) (fun yes e he => ?_) fun _ _ z => z.elim) fun _ _ z => z.elim) fun _ _ z => z.elim
      cases yes
      · exact he
      · exact wpAny_mono (show wpAny _ _ _ _ _ e from he) (fun x f hf => wpAny_mono hf (fun _ _ q => q) fun _ _ z => z.elim) fun _ _ z => z.elim
structure CapOk (N N' : List Str) (sc scope : Scope) (cap : List (Option Nat)) : Prop where
  kind : scope.kind = .function
  nocell : ∀ y ∈ scope.names, y.2 ≠ .cell
  names : ∀ y ∈ scope.names, y.2 = .local → scope.names.lookup y.1 = some .local
  free : ∀ y ∈ scope.names, y.2 = .free → sc.names.lookup y.1 = some .cell ∨ sc.names.lookup y.1 = some .free
  len : cap.length = N'.length
  cap : ∀ p ∈ N'.zip cap, ∀ i, p.2 = some i → N[i]? = some p.1 ∧ scope.names.lookup p.1 = some .free ∧ (sc.names.lookup p.1 = some .cell ∨ sc.names.lookup p.1 = some .free)
theorem lookup_mem {α : Type} : ∀ {l : List (Str × α)} {x : Str} {a : α}, l.lookup x = some a → (x, a) ∈ l
  | [], _, _, h => by simp at h
  | (n, k) :: r, x, a, h => by
    rw [List.lookup_cons] at h
    cases hx : x == n with
    | true =>
      rw [hx] at h
      have e : k = a := Option.some.inj h
      have e2 : x = n := by simpa using hx
      subst e e2
      exact List.mem_cons_self
    | false => rw [hx] at h; exact List.mem_cons_of_mem _ (lookup_mem h)
def LCW (J : It) (g : TG) (tt : TT) (te : TE) (l : Addr) (Q : VK) (W : Nat → Nat → List V → St → Hp → Prop) : Prop :=
  ∀ i m acc σ' H', W i m acc σ' H' → H' l = some (.lst acc) ∧
    ((J.stop i H' ∧ Q (.ref l) H') ∨ (J.go i H' ∧ ∀ x H2, J.yld i H' x H2 → g x σ' H2 fun σ3 H3 => tt σ3 H3 fun b H4 =>
      if b = true then te σ3 H4 fun y H5 => H5 l = some (.lst acc) ∧ acc.length < sizeLine ∧ ∃ m', m' < m ∧ W (i + 1) m' (acc ++ [y]) σ3 (upd H5 l (.lst (acc ++ [y])))
      else ∃ m', m' < m ∧ W (i + 1) m' acc σ3 H4))
def tLC (cap : List (Option Nat)) (wi : TI) (g : TG) (tt : TT) (te : TE) : TE := fun σ H Q => wi σ H fun J H1 => ∀ l, H1 l = none →
  ∃ W : Nat → Nat → List V → St → Hp → Prop, (∃ m, W 0 m [] (capσ cap σ) (upd H1 l (.lst []))) ∧ LCW J g tt te l Q W
end L2
end
section
set_option maxHeartbeats 4000001
namespace L2
open PySem PySem.Spec PyProof.Rows
theorem lc_core {X : Cx} {elt tg iter : Expr} {o : Option Expr} {scope : Scope} {pos ppos : Pos} {wi : TI} {g : TG} {tt : TT} {te : TE} {N' : List Str} {cap : List (Option Nat)} {use : Option (Value → Sem Unit)} {Q0 : Value → Shared → Prop}
    (hc : X.calm = true) (hi : PI X tg iter wi) (ck : CapOk X.N N' X.env.scope scope cap)
    (hg : ∀ C s₀ H₀ fp pins, PG (cxComp X N' scope C s₀ H₀ fp pins) tg g)
    (ht : ∀ C s₀ H₀ fp pins, PTo (cxComp X N' scope C s₀ H₀ fp pins) o tt)
    (he : ∀ C s₀ H₀ fp pins, PE (cxComp X N' scope C s₀ H₀ fp pins) elt te)
    (hs : ∀ x, foldedSetIterable iter X.env x = pure x) {pins : List (Addr × Obj)} {s : Shared} {σ : St} {H : Hp} {Q : VK} (I : Inv X pins σ H s) (h : tLC cap wi g tt te σ H Q)
    (fin : ∀ (l C : Addr) (H4 : Hp) (s5 : Shared) (m : Str → Option Value), Inv X pins σ H4 s5 → Q (.ref l) H4 → s5.heap.Ns C m → FpOk X pins H4 C → compPost (model X.prog X.w) X.A X.xe use Q0 (.ref l) C (.ok .next) s5) :
    wpAny (model X.prog X.w) X.A (comprehension (.ListComp elt [⟨tg, iter, o.toList, 0⟩] scope pos) scope X.env ppos (newList []) false (eval iter X.env) use) Q0 X.xe s := by
  have hcells : ∀ y ∈ scope.names, y.2 = .free → ∃ c, X.env.cells.lookup y.1 = some c := fun y hy hf => I.ok.has y.1 (ck.free y hy hf)
  refine wpAny_comprehension_free (use := use) rfl hs (closure_eq hcells) ck.kind ck.names (thn (hi pins s σ H _ I h) fun v s1 h1 => thn h1 fun itv s2 h2 => ?_)
  obtain ⟨it, fp, tn, J, H2, e, I2, T, st2, f2, body⟩ := h2
  subst e
  have hfr2 : H2 s2.heap.objs.size = none := I2.hok.fresh (Nat.le_refl _)
  obtain ⟨W, ⟨m0, w0⟩, turn⟩ := body s2.heap.objs.size hfr2
  have I3 : Inv X pins σ (upd H2 s2.heap.objs.size (.lst [])) { s2 with heap := s2.heap.push { cls := .type "list", data := .seq ([] : List Value).toArray }, toks := s2.toks } := I2.lnew (its := []) (t' := s2.toks) .nil (Nat.zero_le _)
  refine wpAny_newObj_type (wpAny_newFunctionEnv ck.nocell (by intro y hy; simp at hy) (fun h₁ hns₁ hsb₁ => ?_) ck.kind)
  dsimp only at hns₁ hsb₁ ⊢
  generalize hl : s2.heap.objs.size = l at *
  generalize hP : s2.heap.push { cls := .type "list", dict := none, data := .seq ([] : List Value).toArray } = P2 at *
  generalize hH3 : upd H2 l (.lst []) = H3 at *
  have old : ∀ b o, P2.get? b = some o → h₁.get? b = some o := fun b o e => hsb₁.extBut b o (Nat.ne_of_lt (Heap.lt_size e)) (Heap.get?_push_of_some _ e)
  have old2 : ∀ b o, s2.heap.get? b = some o → P2.get? b = some o := fun b o e => hP ▸ Heap.get?_push_of_some _ e
  have fpl : ∀ b ∈ fp, b < l := fun b hb => by
    obtain ⟨o, e, _⟩ := T.obj _ _ st2 b hb
    rw [← hl]; exact Heap.lt_size e
  have fp3 : ∀ b ∈ fp, H3 b = none := fun b hb => by
    rw [← hH3, upd_ne (Nat.ne_of_lt (fpl b hb))]; exact (f2 b hb).1
  have hPs : P2.objs.size = l + 1 := by rw [← hP, Heap.size_push, hl]
  have subc : ∀ x c, (clOf X.env.cells scope.names []).lookup x = some c → X.env.cells.lookup x = some c := fun x c e => clOf_sub _ _ x c hcells (fun _ _ z => by simp at z) e
  generalize hs3 : ({ s2 with heap := P2, toks := s2.toks } : Shared) = s3 at *
  have hs3h : s3.heap = P2 := by rw [← hs3]
  let Y := cxComp X N' scope P2.objs.size s3 H3 fp pins
  have hYok : Y.Ok := by
    refine ⟨I3.ok.mod, ck.kind, I3.ok.glob, I3.ok.blt, by show s3.heap.objs.size ≤ P2.objs.size; rw [hs3h]; exact Nat.le_refl _, fun x y c e1 e2 => I3.ok.inj x y c (subc x c e1) (subc y c e2), fun x hx => ?_, fun x c hx => absurd (show false = true from hx) Bool.false_ne_true, I3.ok.hd, I3.ok.frames, .inl rfl, fun b hb => ⟨?_, fun x c e => ?_⟩, I3.bs,
      Nat.le_trans I3.ok.bsz I3.sz, fun b o e hb => ?_, fun b hb hz => ?_, I3.stack, I3.stkFree⟩
    · have hx' : scope.names.lookup x = some .free := by
        rcases hx with hx | hx
        · rcases relabel_kind hx with z | z
          · exact absurd rfl (ck.nocell _ (lookup_mem z))
          · exact z.2
        · rcases relabel_kind hx with z | z
          · exact z
          · exact z.2
      exact clOf_has _ _ x hx'
    · exact Nat.ne_of_lt (by show b < P2.objs.size; rw [hPs]; exact Nat.lt_succ_of_lt (fpl b hb))
    · exact (f2 b hb).2.2.2.2.1 x c (subc x c e)
    · rcases (f2 b hb).2.2.2.1 with z | z
      · exact I3.ok.noex b o e z
      · exact absurd (Nat.lt_of_lt_of_le (Heap.lt_size e) (Nat.le_trans I3.ok.bsz z)) (Nat.lt_irrefl _)
    · rcases List.mem_cons.mp (I3.stkSub b hz) with z | z
      · exact (f2 b hb).2.1 z
      · exact (f2 b hb).2.2.1 z
  have hYi : Inv Y [] (capσ cap σ) H3 { s2 with heap := h₁, toks := s2.toks } := by
    refine ⟨hYok, by show s2.os = s3.os; rw [← hs3], I2.bare, by show Un _ _ _ _ s3.heap h₁; rw [hs3h]; exact Un.kept old, ⟨_, hns₁, fun j x v e1 e2 e3 => ?_⟩, fun x c e => ?_, ?_, fun x c e => I3.freeC x c (subc x c e), fun p hp => ?_, fun b o e => ?_, ?_⟩
    · have e1' : N'[j]? = some x := e1
      unfold capσ at e2
      rw [List.getElem?_map] at e2
      cases ec : cap[j]? with
      | none => rw [ec] at e2; cases e2
      | some oc =>
        rw [ec] at e2
        cases oc with
        | none => cases e2
        | some i =>
          have e2' : σ[i]? = some (some v) := by
            cases ei : σ[i]? with
            | none => simp [ei] at e2
            | some v' =>
              simp [ei] at e2
              rw [e2]
          have hz : (x, some i) ∈ N'.zip cap := by
            refine List.mem_of_getElem? (i := j) ?_
            rw [List.getElem?_zip_eq_some]
            exact ⟨e1', ec⟩
          obtain ⟨hN, hf, hk⟩ := ck.cap _ hz i rfl
          obtain ⟨m, hn, hlo⟩ := I3.loc
          obtain ⟨u, r, lk⟩ := hlo i x v hN e2' (by rcases hk with z | z; exact .inr (.inl z); exact .inr (.inr z))
          refine ⟨u, r, .inr ⟨?_, ?_⟩⟩
          · exact relabel_free hf
          · rcases lk with ⟨z, _⟩ | ⟨_, c, hcx, hcell⟩
            · have z' : X.env.scope.names.lookup x = some .local := z
              rcases hk with q | q
              · rw [q] at z'; cases z'
              · rw [q] at z'; cases z'
            · obtain ⟨c', hc'⟩ := clOf_has (cells := X.env.cells) scope.names [] x hf
              have := subc x c' hc'
              rw [hcx] at this; cases this
              obtain ⟨ob, e, d⟩ := hcell
              rw [hs3h] at e
              exact ⟨c, hc', ob, old c ob e, d⟩
    · obtain ⟨v, ob, e', d⟩ := I3.cell x c (subc x c e)
      rw [hs3h] at e'
      exact ⟨v, ob, old c ob e', d⟩
    · refine I3.hok.fresh ?_
      rw [hs3h]; exact Nat.le_refl _
    · have hp' : p ∈ X.pn ++ pins := (List.mem_append.mp hp).elim (fun z => z) (fun z => nomatch z)
      obtain ⟨e, n, ne, nf, d⟩ := I3.pin p hp'
      rw [hs3h] at e
      refine ⟨old _ _ e, n, Nat.ne_of_lt (Heap.lt_size e), fun z => ?_, d⟩
      rcases List.mem_cons.mp (I3.stkSub _ z) with q | q
      · exact ne q
      · exact nf q
    · have := I3.hok.kept (h' := h₁) (fun b u q => old b u (by rw [← hs3h]; exact q))
      exact this b o e
    · show (cap.map _).length = N'.length
      rw [List.length_map, ck.len]
  have stat : ∀ {H' : Hp}, (∀ b ∈ fp, H' b = none) → ∀ b ∈ fp, FpOk Y [] H' b := fun {H'} hn b hb => by
    refine ⟨hn b hb, (hYok.exf b hb).1, hYok.exfs b hb, .inl hb, (hYok.exf b hb).2, fun p hp => ?_⟩
    have hp' : p ∈ X.pn ++ pins := (List.mem_append.mp hp).elim (fun z => z) (fun z => nomatch z)
    exact (f2 b hb).2.2.2.2.2 p hp'
  have st1 : tn 0 h₁ := T.keep 0 _ _ st2 fun b hb o e => old b o (old2 b o e)
  have loop : codeAny (model X.prog X.w) X.A (.compLoop (.ListComp elt [⟨tg, iter, o.toList, 0⟩] scope pos) 0 (.ref it) (.ref l) Y.env) (compPost (model X.prog X.w) X.A X.xe use Q0 (.ref l) P2.objs.size) { s2 with heap := h₁, toks := s2.toks } := by
    refine comp_loop (fun n s' => ∃ i acc σ' H', Inv Y [] σ' H' s' ∧ tn i s'.heap ∧ (∀ b ∈ fp, H' b = none) ∧ W i n acc σ' H') ?_ m0 ⟨0, [], _, H3, hYi, st1, fp3, w0⟩
    rintro n s4 ⟨i, acc, σ4, H4, I4, st4, fr4, w4⟩
    obtain ⟨hlst, q4⟩ := turn i n acc σ4 H4 w4
    rcases q4 with ⟨stop, qn⟩ | ⟨go, step⟩
    · refine thn (T.done Y rfl rfl rfl hc i [] s4 σ4 H4 Y.xe I4 (stat fr4) st4 stop) fun r s5 ⟨hr, I5⟩ => ?_
      subst hr
      obtain ⟨m, hn, _⟩ := id I5.loc
      have un : Un (frs X.stack) fp H3 H4 s3.heap s5.heap := I5.base
      have sz3 : s3.heap.objs.size ≤ P2.objs.size := by rw [hs3h]; exact Nat.le_refl _
      have IX : Inv X pins σ H4 s5 := I3.call' (ch := fp) I5.os un I5.hok I5.bare fun b hb => ⟨(f2 b hb).2.2.2.1, (f2 b hb).2.1, (f2 b hb).2.2.2.2.1, (f2 b hb).2.2.2.2.2⟩
      exact fin l P2.objs.size H4 s5 m IX qn hn (I3.fpOk sz3 I5.free)
    · refine thn (T.item Y rfl rfl rfl hc i [] s4 σ4 H4 Y.xe I4 (stat fr4) st4 go) fun r s5 ⟨u, hr, h5⟩ => ?_
      subst hr
      refine thn h5 fun _ s6 ⟨x, H6, I6, r6, y6, st6, fr6⟩ => ?_
      have I6' := I6.pinned (stat fr6) (T.obj _ _ st6)
      refine thn (hg _ _ _ _ _ _ s6 σ4 H6 x u _ I6' r6 (step x H6 y6)) fun _ s7 ⟨σ7, H7, I7, q7⟩ => ?_
      refine tst_mono (ht _ _ _ _ _ _ s7 σ7 H7 _ I7 q7) fun b s8 ⟨H8, I8, q8⟩ => ?_
      have again : ∀ {σ9 : St} {H9 : Hp} {s9 : Shared} {acc9 : List V}, Inv Y ([] ++ pinsAt fp s6.heap) σ9 H9 s9 → (∃ m', m' < n ∧ W (i + 1) m' acc9 σ9 H9) → ∃ m, m < n ∧ ∃ i acc σ' H', Inv Y [] σ' H' s9 ∧ tn i s9.heap ∧ (∀ b ∈ fp, H' b = none) ∧ W i m acc σ' H' := fun {σ9 H9 s9 acc9} I9 ⟨m', hm, w9⟩ => by
        refine ⟨m', hm, i + 1, acc9, σ9, H9, I9.unpinned, T.keep _ _ _ st6 fun b hb o e => (I9.pin (b, o) (List.mem_append_right _ (List.mem_append_right _ (mem_pinsAt hb e)))).1, fun b hb => ?_, w9⟩
        obtain ⟨o, e, d⟩ := T.obj _ _ st6 b hb
        exact (I9.pin (b, o) (List.mem_append_right _ (List.mem_append_right _ (mem_pinsAt hb e)))).2.1
      cases b with
      | false =>
        rw [if_neg Bool.false_ne_true] at q8 ⊢
        exact again I8 q8
      | true =>
        rw [if_pos rfl] at q8 ⊢
        refine thn (he _ _ _ _ _ _ s8 σ7 H8 _ I8 q8) fun yv s9 ⟨y, H9, I9, r9, hl9, hz9, q9⟩ => ?_
        refine thn (mt_append (X := Y) _ s9 σ7 H9 (.ref l) [y] (.ref l) [yv] (fun _ H' => H' = upd H9 l (.lst (acc ++ [y]))) I9 rfl (.cons r9 .nil) ⟨l, acc, y, rfl, rfl, hl9, hz9, rfl⟩) fun _ s10 ⟨_, H10, I10, _, e10⟩ => ?_
        subst e10
        exact again I10 q9
  exact codeAny_compStart_list loop (T.self X.A 0 _ _ _ st1 loop)
theorem Inv.gone {X : Cx} {pins : List (Addr × Obj)} {σ : St} {H : Hp} {s : Shared} {C : Addr} {h' : Heap} (I : Inv X pins σ H s) (f : FpOk X pins H C) (sb : Heap.SameBut C s.heap h') : Inv X pins σ H { s with heap := h' } :=
  I.turned (t' := s.toks) (fun b o hb e => (sb.2 b hb).trans e) f.1 f.2.1 f.2.2.2.1 f.2.2.2.2.1 f.2.2.2.2.2
theorem pe_lc {X : Cx} {elt tg iter : Expr} {o : Option Expr} {scope : Scope} {pos : Pos} {wi : TI} {g : TG} {tt : TT} {te : TE} {N' : List Str} {cap : List (Option Nat)}
    (hc : X.calm = true) (hi : PI X tg iter wi) (ck : CapOk X.N N' X.env.scope scope cap)
    (hg : ∀ C s₀ H₀ fp pins, PG (cxComp X N' scope C s₀ H₀ fp pins) tg g)
    (ht : ∀ C s₀ H₀ fp pins, PTo (cxComp X N' scope C s₀ H₀ fp pins) o tt)
    (he : ∀ C s₀ H₀ fp pins, PE (cxComp X N' scope C s₀ H₀ fp pins) elt te)
    (hs : ∀ x, foldedSetIterable iter X.env x = pure x := by intro _; rfl) :
    PE X (.ListComp elt [⟨tg, iter, o.toList, 0⟩] scope pos) (tLC cap wi g tt te) := by
  intro pins s σ H Q I h
  rw [eval_ListComp]
  exact lc_core (use := none) hc hi ck hg ht he hs I h fun l C H4 s5 m I5 q hn f => ⟨m, hn, fun h' sb => ⟨.ref l, H4, I5.gone f sb, rfl, q⟩⟩
end L2
end
section
set_option maxHeartbeats 4000001
namespace Own
open PySem PySem.Spec PyProof.Rows
section
variable {M : Model} {prog : Program} {w : World} {A : Around} {E : Value → Shared → Prop} {s : Shared} {α : Type} {Q : α → Shared → Prop}
theorem rf {a : Addr} {o : Obj} {vs : Array Value} {x : Value} {f : Value → Sem α} (k : Nat) (ho : s.heap.get? a = some o) (hd : o.data = .fields vs) (hx : vs[k]? = some x) (h : wpAny M A (f x) Q E s) :
    wpAny M A (field (.ref a) k >>= f) Q E s := wpAny_bind (wpAny_field ho hd hx h)
theorem nx {T id : String} {B : Builtin} {it : Addr} {P : Value → Shared → Prop} (slot : Slot T "__next__" id) (ty : s.TypeIs (.ref it) T) (en : entryFor table id = some B) (ok : argsOk id ⟨[.ref it], []⟩)
    (h : wpAny (model prog w) A.in1 (B ⟨[.ref it], []⟩) (fun r s' => ∃ v, r = .done (.ret v) ∧ P v s') E s) : wpAny (model prog w) A (Builtin.SmallTypes.nextOf (.ref it)) P E s := by
  unfold Builtin.SmallTypes.nextOf; refine wpAny_bind (wpAny_callSpecial?_slot (name := "__next__") ty slot (wpAny_call_entry slot ty en (thn2 h) ok))
where
  thn2 {B' : Sem Fin} {P : Value → Shared → Prop} {A' : Around} (h : wpAny (model prog w) A' B' (fun r s' => ∃ v, r = .done (.ret v) ∧ P v s') E s) :
      wpAny (model prog w) A' B' (fun r s' => ∃ v, r = .done (.ret v) ∧ wpAny (model prog w) A (pure v) P E s') E s :=
    wpAny_mono h (fun _ _ ⟨v, e, q⟩ => ⟨v, e, wpAny_pure q⟩) fun _ _ z => z
end
theorem ends {A : Around} {E : Value → Shared → Prop} {prog : Program} {w : World} {s : Shared} {α : Type} {Q : α → Shared → Prop} (hh : A.handled = none)
    (h : ∀ h' x, (∀ b o, s.heap.get? b = some o → h'.get? b = some o) → (∃ o, h'.get? x = some o ∧ o.cls = .type "StopIteration") → E (.ref x) { s with heap := h' }) :
    wpAny (model prog w) A (Builtin.SmallTypes.stopIteration : Sem α) Q E s := by
  unfold Builtin.SmallTypes.stopIteration newExc newTuple
  refine wpAny_bind (wpAny_bind (wpAny_newObj_type ?_ (by size_fits)))
  refine wpAny_bind (wpAny_of_eq (a := Value.none) (by rfl) (wpAny_newObj_type (wpAny_raiseNew_none hh (h _ _ (fun b o e => ?_) ⟨_, Heap.get?_push_size _ rfl, rfl⟩)) (by size_fits)))
  exact Heap.get?_push_of_some _ (Heap.get?_push_of_some _ e)
def cN : Bool → String
  | true => "list_iterator"
  | false => "tuple_iterator"
abbrev RIt (b : Bool) (h : Heap) (it a : Addr) (i : Int) : Prop := h.get? it = some { cls := .type (cN b), dict := none, data := .fields #[.ref a, .int i 0], slots := #[] }
def SqO : Bool → Heap → Addr → Array Value → Prop
  | true, h, a, xs => h.IsList a xs
  | false, h, a, xs => h.IsTuple a xs
theorem SqO.ob {b : Bool} {h : Heap} {a : Addr} {xs : Array Value} (x : SqO b h a xs) : ∃ o n, h.get? a = some o ∧ o.data = .seq xs n := by
  cases b <;> (obtain ⟨o, e, _, n, d⟩ := x; exact ⟨o, n, e, d⟩)
theorem SqO.mv {b : Bool} {h h' : Heap} {a : Addr} {xs : Array Value} (x : SqO b h a xs) (k : ∀ o, h.get? a = some o → h'.get? a = some o) : SqO b h' a xs := by
  cases b <;> (obtain ⟨o, e, r⟩ := x; exact ⟨o, k o e, r⟩)
theorem SqO.ne {b b' : Bool} {h : Heap} {a it a' : Addr} {i : Int} {xs : Array Value} (x : SqO b h a xs) (y : RIt b' h it a' i) : a ≠ it := fun z => by
  obtain ⟨o, n, e, d⟩ := x.ob
  rw [z, y] at e; cases e; cases d
section
variable {prog : Program} {w : World} {A : Around} {E : Value → Shared → Prop} {s : Shared}
theorem ty {b : Bool} {it a : Addr} {i : Int} (y : RIt b s.heap it a i) : s.TypeIs (.ref it) (cN b) := ⟨_, y, rfl⟩
theorem rise_go {b : Bool} {it a : Addr} {i : Nat} {xs : Array Value} {x : Value} {P : Value → Shared → Prop} {B : Builtin} (hB : B = match b with | true => Builtin.«list_iterator.__next__» | false => Builtin.«tuple_iterator.__next__»)
    (y : RIt b s.heap it a i) (sq : SqO b s.heap a xs) (hx : xs[i]? = some x) (h : ∀ h', RIt b h' it a (i + 1) → Heap.SameBut it s.heap h' → P x { s with heap := h' }) :
    wpAny (model prog w) A (B ⟨[.ref it], []⟩) (fun r s' => ∃ v, r = .done (.ret v) ∧ P v s') E s := by
  obtain ⟨o, n, e, d⟩ := sq.ob
  have fin : wpAny (model prog w) A (match xs[(i : Int).toNat]? with
      | some x => (do setField (.ref it) 1 (rawInt ((i : Int) + 1)); ret x : Sem Fin)
      | none => Builtin.SmallTypes.stopIteration) (fun r s' => ∃ v, r = .done (.ret v) ∧ P v s') E s := by
    rw [Int.toNat_natCast, hx]
    exact wpAny_bind (wpAny_setField_rec y (show 1 < 2 by decide) fun h' y' sb => wpAny_pure ⟨x, rfl, h h' y' sb⟩)
  rw [Int.toNat_natCast, hx] at fin
  subst hB
  cases b <;>
  · refine rf 0 y rfl rfl (PyIte (show ¬ ((Value.ref a == Value.none) = true) from Bool.false_ne_true) (rf 1 y rfl rfl (wpAny_bind (wpAny_seqItems e d ?_))))
    simp only [Int.toNat_natCast, hx]; exact fin
where
  PyIte {c : Prop} [Decidable c] {α : Type} {a b : Sem α} {M : Model} {A : Around} {Q : α → Shared → Prop} {E : Value → Shared → Prop} {s : Shared} (hc : ¬ c) (h : wpAny M A b Q E s) : wpAny M A (if c then a else b) Q E s := by
    rw [if_neg hc]; exact h
theorem rise_stop {b : Bool} {it a : Addr} {i : Nat} {xs : Array Value} {Q : Fin → Shared → Prop} {B : Builtin} (hB : B = match b with | true => Builtin.«list_iterator.__next__» | false => Builtin.«tuple_iterator.__next__»)
    (hh : A.handled = none) (y : RIt b s.heap it a i) (sq : SqO b s.heap a xs) (hx : xs[i]? = none)
    (h : ∀ h' x, (∀ c o, c ≠ it → s.heap.get? c = some o → h'.get? c = some o) → (∃ o, h'.get? x = some o ∧ o.cls = .type "StopIteration") → E (.ref x) { s with heap := h' }) :
    wpAny (model prog w) A (B ⟨[.ref it], []⟩) Q E s := by
  obtain ⟨o, n, e, d⟩ := sq.ob
  subst hB
  cases b <;>
  · refine rf 0 y rfl rfl (rise_go.PyIte (show ¬ ((Value.ref a == Value.none) = true) from Bool.false_ne_true) (rf 1 y rfl rfl (wpAny_bind (wpAny_seqItems e d ?_))))
    simp only [Int.toNat_natCast, hx]; refine wpAny_bind (wpAny_rule (wpAny_bind (wpAny_setField_rec y (show 0 < 2 by decide) fun h1 _ sb => ?_)))
    exact ends hh fun h2 x k z => h h2 x (fun c o hc q => k c o ((sb.2 c hc).trans q)) z
theorem next_go {b : Bool} {it a : Addr} {i : Nat} {xs : Array Value} {x : Value} {P : Value → Shared → Prop} (y : RIt b s.heap it a i) (sq : SqO b s.heap a xs) (hx : xs[i]? = some x)
    (h : ∀ h', RIt b h' it a (i + 1) → Heap.SameBut it s.heap h' → P x { s with heap := h' }) : wpAny (model prog w) A (Builtin.SmallTypes.nextOf (.ref it)) P E s := by
  cases b
  · exact nx F.slot_tuple_iterator_next (ty y) F.entry_tuple_iterator_next (F.args_tuple_iterator_next_1 _) (rise_go (b := false) rfl y sq hx h)
  · exact nx slot_listiter_next (ty y) entry_listiter_next (args_listiter_next _) (rise_go (b := true) rfl y sq hx h)
theorem next_stop {b : Bool} {it a : Addr} {i : Nat} {xs : Array Value} {P : Value → Shared → Prop} (hh : A.handled = none) (y : RIt b s.heap it a i) (sq : SqO b s.heap a xs) (hx : xs[i]? = none)
    (h : ∀ h' x, (∀ c o, c ≠ it → s.heap.get? c = some o → h'.get? c = some o) → (∃ o, h'.get? x = some o ∧ o.cls = .type "StopIteration") → E (.ref x) { s with heap := h' }) :
    wpAny (model prog w) A (Builtin.SmallTypes.nextOf (.ref it)) P E s := by
  have inner : A.in1.handled = none := hh
  cases b
  · exact nx F.slot_tuple_iterator_next (ty y) F.entry_tuple_iterator_next (F.args_tuple_iterator_next_1 _) (rise_stop (b := false) rfl inner y sq hx h)
  · exact nx slot_listiter_next (ty y) entry_listiter_next (args_listiter_next _) (rise_stop (b := true) rfl inner y sq hx h)
theorem iter_of {b : Bool} {a : Addr} {xs : Array Value} {P : Value → Shared → Prop} (sq : SqO b s.heap a xs)
    (h : P (.ref s.heap.objs.size) { s with heap := s.heap.push { cls := .type (cN b), data := .fields #[.ref a, .int 0 0] } }) : wpAny (model prog w) A (pyIter (.ref a)) P E s := by
  cases b
  · exact wpAny_pyIter_tuple sq h
  · exact wpAny_pyIter_list sq h
end
theorem draws {prog : Program} {w : World} {A : Around} (hh : A.handled = none) (b : Bool) (it a : Addr) (xs : Array Value) (hne : a ≠ it) :
    Draws prog w A it [it, a] xs.size (fun i v => xs[i]? = some v) (fun i h => RIt b h it a i ∧ SqO b h a xs) :=
  ⟨fun _ _ st => ⟨_, st.1⟩, fun _ _ _ st k => ⟨k it List.mem_cons_self _ st.1, st.2.mv fun o e => k a (List.mem_cons_of_mem _ List.mem_cons_self) o e⟩,
    fun i s Q E hi st k => next_go st.1 st.2 (Array.getElem?_eq_getElem hi) fun h' y sb => k _ h' s.toks (Array.getElem?_eq_getElem hi) ⟨y, st.2.mv fun o e => (sb.2 a hne).trans e⟩ sb,
    fun s Q E st k => next_stop hh st.1 st.2 (by simp) fun h' x kk z => k h' x (fun c o hc q => kk c o hc q) z⟩
structure Sep (z TI TO i1 i2 : Addr) (f1 f2 : List Addr) : Prop where
  all : [z, TI, TO, i1, i2].Nodup
  z1 : z ∉ f1
  t1 : TO ∉ f1
  o1 : i2 ∉ f1
  z2 : z ∉ f2
  t2 : TO ∉ f2
  o2 : i1 ∉ f2
section
variable {prog : Program} {w : World} {A : Around} {E : Value → Shared → Prop} {s : Shared} {z TI TO i1 i2 : Addr} {f1 f2 : List Addr} {n1 n2 k : Nat} {P1 P2 : Nat → Value → Prop} {S1 S2 : Nat → Heap → Prop} {a b : Value}
theorem zip_step (S : Sep z TI TO i1 i2 f1 f2) (D1 : Draws prog w A i1 f1 n1 P1 S1) (D2 : Draws prog w A i2 f2 n2 P2 S2) {Q : Value → Shared → Prop}
    (hz : IsZip s.heap z TI TO .none) (hI : IsPair s.heap TI (.ref i1) (.ref i2)) (hO : IsPair s.heap TO a b) (d1 : S1 k s.heap) (d2 : S2 k s.heap) (l1 : k < n1) (l2 : k < n2)
    (h : ∀ x y h' tk, P1 k x → P2 k y → IsZip h' z TI TO (rawInt s.heap.objs.size) → IsPair h' TO x y → S1 (k + 1) h' → S2 (k + 1) h' → IsPair h' s.heap.objs.size x y →
      (∀ c o, c ∉ [z, TO, i1, i2] → s.heap.get? c = some o → h'.get? c = some o) → Q (.ref s.heap.objs.size) { s with heap := h', toks := tk }) :
    wpAny (model prog w) A (Builtin.«zip.__next__» ⟨[.ref z], []⟩) (fun r s' => ∃ v, r = .done (.ret v) ∧ Q v s') E s := by
  have nd := S.all
  simp only [List.nodup_cons, List.mem_cons, List.not_mem_nil, or_false, not_or] at nd
  obtain ⟨⟨zI, zO, z1, z2⟩, ⟨IO, I1, I2⟩, ⟨O1, O2⟩, n12, _⟩ := nd
  refine rf 2 hz rfl rfl (rf 3 hz rfl rfl (wpAny_bind (wpAny_seqItems hI rfl (wpAny_bind (rf 0 hz rfl rfl (wpAny_pure ?_))))))
  simp only [if_true]
  refine wpAny_bind (wpAny_rule (rf 4 hz rfl rfl (wpAny_bind (wpAny_setField_rec hz (show 0 < 5 by decide) fun ha za sa => wpAny_bind ?_))))
  have za' : IsZip ha z TI TO .ellipsis := za; simp only [List.zipIdx_cons, List.zipIdx_nil, List.forIn_cons, List.forIn_nil]
  refine wpAny_bind (wpAny_bind (wpAny_onRaise (wpAny_bind (D1.item k _ _ _ l1 (D1.frame _ _ _ d1 fun c hc o e => (sa.2 c fun q => S.z1 (q ▸ hc)).trans e) fun x hb tb px db sb => wpAny_pure ?_))))
  have Ob : IsPair hb TO a b := (sb.2 TO O1).trans ((sa.2 TO (Ne.symm zO)).trans hO)
  refine wpAny_bind (wpAny_seqItems Ob rfl (wpAny_bind (wpAny_updateSeq_pair Ob fun hc Oc sc => wpAny_bind (wpAny_letGo (wpAny_pure ?_)))))
  have Oc' : IsPair hc TO x b := Oc
  have st2 : S2 k hc := D2.frame _ _ _ d2 fun c hm o e => (sc.2 c fun q => S.t2 (q ▸ hm)).trans ((sb.2 c fun q => S.o2 (q ▸ hm)).trans ((sa.2 c fun q => S.z2 (q ▸ hm)).trans e))
  refine wpAny_bind (wpAny_bind (wpAny_onRaise (wpAny_bind (D2.item k _ _ _ l2 st2 fun y hd td py dd sd => wpAny_pure ?_))))
  have Od : IsPair hd TO x b := (sd.2 TO O2).trans Oc'
  refine wpAny_bind (wpAny_seqItems Od rfl (wpAny_bind (wpAny_updateSeq_pair Od fun he Oe se => wpAny_bind (wpAny_letGo (wpAny_pure (wpAny_pure ?_))))))
  have Oe' : IsPair he TO x y := Oe
  refine wpAny_bind (wpAny_seqItems Oe' rfl (wpAny_bind (wpAny_newTuple (wpAny_bind ?_))))
  have sz : he.objs.size = s.heap.objs.size := by rw [se.1, sd.1, sc.1, sb.1, sa.1]
  have ze : IsZip he z TI TO .ellipsis := (se.2 z zO).trans ((sd.2 z z2).trans ((sc.2 z zO).trans ((sb.2 z z1).trans za')))
  have zn : he.objs.size ≠ z := Nat.ne_of_gt (Heap.lt_size ze)
  unfold Builtin.SmallTypes.ownedTupleHandOut; refine wpAny_bind (wpAny_setField_rec (Heap.get?_push_of_some _ ze) (show 0 < 5 by decide) fun hf zf sf => wpAny_setField_rec zf (show 1 < 5 by decide) fun hg zg sg => wpAny_pure ⟨_, rfl, ?_⟩)
  have up : ∀ c o, c ≠ z → he.get? c = some o → hg.get? c = some o := fun c o q e => (sg.2 c q).trans ((sf.2 c q).trans (Heap.get?_push_of_some _ e))
  have new : IsPair hg he.objs.size x y := (sg.2 _ zn).trans ((sf.2 _ zn).trans (Heap.get?_push_size _ rfl))
  have zg' : IsZip hg z TI TO (rawInt he.objs.size) := zg
  rw [sz] at new zg'
  show Q (.ref he.objs.size) _
  rw [sz]
  refine h x y hg td px py zg' (up _ _ (Ne.symm zO) Oe') ?_ ?_ new fun c o hc e => ?_
  · exact D1.frame _ _ _ db fun c hm o e => up c o (fun q => S.z1 (q ▸ hm)) ((se.2 c fun q => S.t1 (q ▸ hm)).trans ((sd.2 c fun q => S.o1 (q ▸ hm)).trans ((sc.2 c fun q => S.t1 (q ▸ hm)).trans e)))
  · exact D2.frame _ _ _ dd fun c hm o e => up c o (fun q => S.z2 (q ▸ hm)) ((se.2 c fun q => S.t2 (q ▸ hm)).trans e)
  · simp only [List.mem_cons, List.not_mem_nil, or_false, not_or] at hc
    obtain ⟨c1, c2, c3, c4⟩ := hc
    exact up c o c1 ((se.2 c c2).trans ((sd.2 c c4).trans ((sc.2 c c2).trans ((sb.2 c c3).trans ((sa.2 c c1).trans e)))))
end
end Own
end
section
set_option maxHeartbeats 4000001
namespace Own
open PySem PySem.Spec PyProof.Rows
section
variable {prog : Program} {w : World} {A : Around} {E : Value → Shared → Prop} {s : Shared} {z TI TO i1 i2 : Addr} {f1 f2 : List Addr} {n1 n2 k : Nat} {P1 P2 : Nat → Value → Prop} {S1 S2 : Nat → Heap → Prop} {a b : Value}
theorem zip_stop (S : Sep z TI TO i1 i2 f1 f2) (D1 : Draws prog w A i1 f1 n1 P1 S1) {Q : Fin → Shared → Prop} (hz : IsZip s.heap z TI TO .none) (hI : IsPair s.heap TI (.ref i1) (.ref i2)) (d1 : S1 n1 s.heap)
    (h : ∀ h' x, (∀ c o, c ∉ [z, TO, i1, i2] → s.heap.get? c = some o → h'.get? c = some o) → (∃ o, h'.get? x = some o ∧ o.cls = .type "StopIteration") → E (.ref x) { s with heap := h' }) : wpAny (model prog w) A (Builtin.«zip.__next__» ⟨[.ref z], []⟩) Q E s := by
  have nd := S.all
  simp only [List.nodup_cons, List.mem_cons, List.not_mem_nil, or_false, not_or] at nd
  obtain ⟨⟨zI, zO, z1, z2⟩, ⟨IO, I1, I2⟩, ⟨O1, O2⟩, n12, _⟩ := nd
  refine rf 2 hz rfl rfl (rf 3 hz rfl rfl (wpAny_bind (wpAny_seqItems hI rfl (wpAny_bind (rf 0 hz rfl rfl (wpAny_pure ?_))))))
  simp only [if_true]
  refine wpAny_bind (wpAny_rule (rf 4 hz rfl rfl (wpAny_bind (wpAny_setField_rec hz (show 0 < 5 by decide) fun ha za sa => wpAny_bind ?_))))
  have za' : IsZip ha z TI TO .ellipsis := za; simp only [List.zipIdx_cons, List.zipIdx_nil, List.forIn_cons, List.forIn_nil]
  refine wpAny_bind (wpAny_bind (wpAny_onRaise (wpAny_bind (D1.done _ _ _ (D1.frame _ _ _ d1 fun c hc o e => (sa.2 c fun q => S.z1 (q ▸ hc)).trans e) fun hb x kb ⟨ox, ex, cx⟩ => ?_))))
  have zb : IsZip hb z TI TO .ellipsis := kb z _ z1 za'
  have xz : x ≠ z := fun q => by rw [q, zb] at ex; cases ex; exact absurd (show Value.type "zip" = Value.type "StopIteration" from cx) (by decide)
  refine wpAny_setField_rec zb (show 0 < 5 by decide) fun hc _ sc => h hc x (fun c o hm e => ?_) ⟨ox, (sc.2 x xz).trans ex, cx⟩
  simp only [List.mem_cons, List.not_mem_nil, or_false, not_or] at hm
  exact (sc.2 c hm.1).trans (kb c o hm.2.2.1 ((sa.2 c hm.1).trans e))
end
theorem zip_new (b1 b2 : Bool) (a1 a2 : Addr) (xs ys : Array Value) : Meets (Builtin.«zip.__new__» ⟨[.type "zip", .ref a1, .ref a2], []⟩) (fun _ R s => SqO b1 s.heap a1 xs ∧ SqO b2 s.heap a2 ys ∧
    ∀ h' z, (∃ TI TO i1 i2, [z, TI, TO, i1, i2].Nodup ∧ (∀ c ∈ [z, TI, TO, i1, i2], s.heap.objs.size ≤ c) ∧ IsZip h' z TI TO .none ∧ IsPair h' TI (.ref i1) (.ref i2) ∧ IsPair h' TO .none .none ∧ RIt b1 h' i1 a1 0 ∧ RIt b2 h' i2 a2 0) →
      (∀ c o, s.heap.get? c = some o → h'.get? c = some o) → R (.ok (.ret (.ref z))) { s with heap := h' }) :=
  .of_wp fun prog w A R s h => by
    obtain ⟨hp, g, d, tk, os⟩ := s; obtain ⟨q1, q2, h⟩ := h
    have sub := sub_zip
    have r1 : SqO b1 (Shared.heap ⟨hp, g, d, tk, os⟩) a1 xs := q1
    have r2 : SqO b2 (Shared.heap ⟨hp.push { cls := .type (cN b1), data := .fields #[.ref a1, .int 0 0] }, g, d, tk, os⟩) a2 ys := q2.mv fun o e => Heap.get?_push_of_some _ e
    wp_walk using iter_of r1, iter_of r2
    refine ⟨_, rfl, h _ _ ⟨_, _, _, _, ?_, ?_, Heap.get?_push_size _ rfl, Heap.get?_push_of_some _ (Heap.get?_push_of_some _ (Heap.get?_push_size _ rfl)), Heap.get?_push_of_some _ (Heap.get?_push_size _ rfl),
      Heap.get?_push_of_some _ (Heap.get?_push_of_some _ (Heap.get?_push_of_some _ (Heap.get?_push_of_some _ (Heap.get?_push_size _ rfl)))), Heap.get?_push_of_some _ (Heap.get?_push_of_some _ (Heap.get?_push_of_some _ (Heap.get?_push_size _ rfl)))⟩ fun c o e => ?_⟩
    · simp only [Heap.size_push, List.nodup_cons, List.mem_cons, List.not_mem_nil, or_false, not_or]
      simp <;> lia
    · simp only [Heap.size_push, List.mem_cons, List.not_mem_nil, or_false]
      intro c hc
      have : hp.objs.size ≤ c := by lia
      exact this
    · exact Heap.get?_push_of_some _ (Heap.get?_push_of_some _ (Heap.get?_push_of_some _ (Heap.get?_push_of_some _ (Heap.get?_push_of_some _ e))))
end Own
end
section
set_option maxHeartbeats 4000001
namespace L2
open PySem PySem.Spec PyProof.Rows Own
section
variable {X : Cx} {pins : List (Addr × Obj)} {σ : St} {H : Hp} {s : Shared} {h' : Heap}
theorem Inv.spunN {fp : List Addr} {T : Addr} {o : HO} {t' : Nat} (I : Inv X pins σ H s) (k : ∀ b o, b ∉ fp → s.heap.get? b = some o → h'.get? b = some o) (hf : ∀ b ∈ fp, FpOk X pins H b) (hT : s.heap.objs.size ≤ T)
    (new : ObjOk X.prog X.w (upd H T o) h' T o) : Inv X pins σ (upd H T o) { s with heap := h', toks := t' } := by
  have hn : H T = none := I.hok.fresh hT
  have neT : ∀ b u, s.heap.get? b = some u → b ≠ T := fun b u e => Nat.ne_of_lt (Nat.lt_of_lt_of_le (Heap.lt_size e) hT)
  have nfp : ∀ b u, H b = some u → b ∉ fp := fun b u e hb => by rw [(hf b hb).1] at e; cases e
  refine I.step (g' := s.gens) (d' := s.drawn) (ch := fp) (fun b hb => ?_) (fun b o _ _ hc e _ => k b o hc e) (fun b o _ _ hc e _ => ⟨o.slots, k b o hc e⟩) (fun b o _ e n => by rw [upd_ne (neT b o e)]; exact n)
    (fun b o hc e => ⟨o, k b o hc e⟩) (fun b xs e => by rw [upd_ne (ne_of_none e hn)]; exact e) (fun b o u e => by rw [upd_ne (ne_of_none e hn)]; exact e) (fun b ps e => ⟨#[], by rw [upd_ne (ne_of_none e hn), e]; simp⟩) (fun m hm => ?_) (fun b u e => ?_) I.bare
  · obtain ⟨f0, f1, f2, f3, f4, f5⟩ := hf b hb
    exact ⟨f3, f1, f4, f5⟩
  · obtain ⟨o, es, ep, ho, r⟩ := hm
    exact ⟨o, es, ep, k _ o (fun hb => (hf _ hb).2.1 rfl) ho, r⟩
  · by_cases hb : b = T
    · subst hb; rw [upd_same] at e; cases e; exact new
    · rw [upd_ne hb] at e
      refine (I.hok b u e).stay (fun c v hc q => k c v ?_ q) (fun c q => by rw [upd_ne (ne_of_none q hn)]; exact q) fun c xs q => by rw [upd_ne (ne_of_none q hn)]; exact q
      rcases hc with z | z
      · rw [z]; exact nfp b u e
      · exact nfp c _ z
theorem Inv.spun {fp : List Addr} {t' : Nat} (I : Inv X pins σ H s) (k : ∀ b o, b ∉ fp → s.heap.get? b = some o → h'.get? b = some o) (hf : ∀ b ∈ fp, FpOk X pins H b) : Inv X pins σ H { s with heap := h', toks := t' } := by
  have nfp : ∀ b u, H b = some u → b ∉ fp := fun b u e hb => by rw [(hf b hb).1] at e; cases e
  refine I.step (g' := s.gens) (d' := s.drawn) (ch := fp) (fun b hb => ?_) (fun b o _ _ hc e _ => k b o hc e) (fun b o _ _ hc e _ => ⟨o.slots, k b o hc e⟩) (fun b o _ e n => n)
    (fun b o hc e => ⟨o, k b o hc e⟩) (fun b xs e => e) (fun b o u e => e) (fun b ps e => ⟨#[], by rw [e]; simp⟩) (fun m hm => ?_) (fun b u e => ?_) I.bare
  · obtain ⟨f0, f1, f2, f3, f4, f5⟩ := hf b hb
    exact ⟨f3, f1, f4, f5⟩
  · obtain ⟨o, es, ep, ho, r⟩ := hm
    exact ⟨o, es, ep, k _ o (fun hb => (hf _ hb).2.1 rfl) ho, r⟩
  · refine (I.hok b u e).stay (fun c v hc q => k c v ?_ q) (fun c q => q) fun c xs q => q
    rcases hc with z | z
    · rw [z]; exact nfp b u e
    · exact nfp c _ z
end
def SqB : Bool → PySem.W.Frag → Hp → Addr → List V → Prop
  | true, K, H, a, xs => SqL K H a xs
  | false, K, H, a, xs => SqT K H a xs
section
variable {X : Cx} {pins : List (Addr × Obj)} {σ : St} {H : Hp} {s : Shared} {a c : Addr} {xs ys : List V} {b : Bool}
theorem Inv.sq (I : Inv X pins σ H s) (h : SqB b X.K H a xs) : ∃ its : List Value, Vals xs its ∧ SqO b s.heap a its.toArray := by
  cases b
  · obtain ⟨its, r, p, z⟩ := I.tuple h
    exact ⟨its, r, p⟩
  · obtain ⟨its, r, p, z⟩ := I.list h
    exact ⟨its, r, p.isList⟩
theorem Inv.sq_inj (I : Inv X pins σ H s) (h : SqB b X.K H a xs) (h' : SqB b X.K H a ys) : xs = ys := by
  cases b
  · exact I.tuple_inj h h'
  · exact I.list_inj h h'
theorem Inv.sq_ne (I : Inv X pins σ H s) (h : SqB b X.K H a xs) (f : FpOk X pins H c) : c ≠ a := by
  rintro rfl
  have inK : ∀ o, X.K.lookup c = some o → False := fun o e => by
    have e1 := I.ok.mod.kin c o e
    rcases f.2.2.2.1 with z | z
    · exact I.ok.noex c o e1 z
    · exact absurd (Nat.lt_of_lt_of_le (Heap.lt_size e1) (Nat.le_trans I.ok.bsz z)) (Nat.lt_irrefl _)
  cases b <;>
  · rcases h with (h | ⟨o, h⟩) | ⟨o, _, _, e, _⟩
    · rw [f.1] at h; cases h
    · rw [f.1] at h; cases h
    · exact inK o e
end
def Pr (v u : V) (H : Hp) (x : V) (H' : Hp) : Prop := ∃ T, H T = none ∧ x = .ref T ∧ H' = upd H T (.tup [v, u])
theorem pair_ok {P : Program} {w : World} {H : Hp} {h : Heap} {T : Addr} {v u : V} {a b : Value} (e : IsPair h T a b) (rv : RelV v a) (ru : RelV u b) : ObjOk P w (upd H T (.tup [v, u])) h T (.tup [v, u]) :=
  ⟨show 2 ≤ sizeLine by decide, [a, b], .cons rv (.cons ru .nil), ⟨_, e, rfl, _, rfl, rfl⟩⟩
def Itz (K : PySem.W.Frag) (b1 b2 : Bool) (a1 a2 : Addr) : It :=
  ⟨fun i H => ∃ xs ys x y, SqB b1 K H a1 xs ∧ SqB b2 K H a2 ys ∧ xs[i]? = some x ∧ ys[i]? = some y, fun i H v H' => ∃ x y, (∀ xs, SqB b1 K H a1 xs → xs[i]? = some x) ∧ (∀ ys, SqB b2 K H a2 ys → ys[i]? = some y) ∧ Pr x y H v H',
   fun i H => ∃ xs, SqB b1 K H a1 xs ∧ xs.length = i⟩
def iZip (K : PySem.W.Frag) (b1 b2 : Bool) (ta : TA) : TI := fun σ H R => ta σ H fun vs H1 => ∃ a1 a2 xs ys, vs = [.ref a1, .ref a2] ∧ SqB b1 K H1 a1 xs ∧ SqB b2 K H1 a2 ys ∧ R (Itz K b1 b2 a1 a2) H1
end L2
end
section
set_option maxHeartbeats 4000001
namespace L2
open PySem PySem.Spec PyProof.Rows Own
section
variable {X : Cx}
theorem walkB {prog : Program} {w : World} {A : Around} (hh : A.handled = none) (b : Bool) (I a : Addr) (hne : a ≠ I) (xs : Array Value) :
    Walks prog w A I [I, a] [I] xs.size (fun i v => xs[i]? = some v) (fun i h => (match b with | true => h.IsListIter I a i | false => h.IsTupleIter I a i) ∧ SqO b h a xs) := by
  cases b
  · exact Walks.tuple hh I a hne xs
  · exact Walks.list hh I a hne xs
theorem preSum_list (ns : List Int) : ∀ n, n ≤ ns.length → preSum (fun i => ns.getD i 0) n = (ns.take n).sum
  | 0, _ => by simp [preSum]
  | n + 1, h => by
    have e : ns[n]? = some ns[n] := List.getElem?_eq_getElem h
    rw [preSum, preSum_list ns n (Nat.le_of_lt h), List.take_add_one, List.sum_append, e, List.getD_eq_getElem?_getD, e]
    simp
theorem call_sumB (hc : X.calm = true) (b : Bool) : CallR X (.builtin "sum") (fun vs H Q => ∃ a ns, vs = [.ref a] ∧ SqB b X.K H a (List.map V.int ns) ∧ Q (.int ns.sum) H) := by
  intro pins s σ H vs us Q I rv h
  obtain ⟨a, ns, rfl, hq, q⟩ := h
  obtain ⟨u, rfl, ru⟩ := rv.one
  cases ru
  obtain ⟨its, r, p⟩ := I.sq hq
  have hne : a ≠ s.heap.objs.size := by
    obtain ⟨o, n, e, _⟩ := p.ob
    exact Nat.ne_of_lt (Heap.lt_size e)
  have hl : its.length = ns.length := by rw [← r.length, List.length_map]
  refine call_sum_walkG (iter_of p ⟨s.heap.objs.size, [s.heap.objs.size, a], [s.heap.objs.size], _, _, _, fun i => ns.getD i 0, rfl, walkB (show X.A.in1.handled = none from I.ok.hd hc) b _ a hne its.toArray, ?_, ?_, ?_, ?_⟩)
  · refine ⟨?_, p.mv fun o e => Heap.get?_push_of_some _ e⟩
    cases b <;> exact ⟨_, Heap.get?_push_size _ rfl, rfl, rfl⟩
  · intro c hm
    show c < (s.heap.push _).objs.size
    rw [Heap.size_push]
    rcases List.mem_cons.mp hm with z | z
    · rw [z]; exact Nat.lt_succ_self _
    · rw [List.mem_singleton.mp z]
      obtain ⟨o, n, e, _⟩ := p.ob
      exact Nat.lt_succ_of_lt (Heap.lt_size e)
  · intro i v hv
    have hv' : its[i]? = some v := by simpa using hv
    have hi := (List.getElem?_eq_some_iff.mp hv').1
    have e : (List.map V.int ns)[i]? = some (V.int (ns.getD i 0)) := by
      rw [List.getElem?_map, List.getD_eq_getElem?_getD, List.getElem?_eq_getElem (by lia)]
      rfl
    obtain ⟨u', e', ⟨t, rfl⟩⟩ := r.get e
    rw [hv'] at e'
    exact ⟨t, Option.some.inj e'⟩
  · intro h' tk t' hk
    refine ⟨.int ns.sum, H, I.kept (t' := tk) fun c o e => hk c o ?_ (Heap.get?_push_of_some _ e), ⟨t', ?_⟩, q⟩
    · exact fun z => Nat.ne_of_lt (Heap.lt_size e) (List.mem_singleton.mp z)
    · rw [List.size_toArray, hl, preSum_list ns _ (Nat.le_refl _), List.take_length]
theorem call_allB (hc : X.calm = true) (b : Bool) : CallR X (.builtin "all") (fun vs H Q => ∃ a bs, vs = [.ref a] ∧ SqB b X.K H a (List.map V.bl bs) ∧ Q (.bl (bs.all id)) H) := by
  intro pins s σ H vs us Q I rv h
  obtain ⟨a, bs, rfl, hq, q⟩ := h
  obtain ⟨u, rfl, ru⟩ := rv.one
  cases ru
  obtain ⟨its, r, p⟩ := I.sq hq
  have hne : a ≠ s.heap.objs.size := by
    obtain ⟨o, n, e, _⟩ := p.ob
    exact Nat.ne_of_lt (Heap.lt_size e)
  have hl : its.length = bs.length := by rw [← r.length, List.length_map]
  refine call_all_walk (iter_of p ⟨s.heap.objs.size, [s.heap.objs.size, a], [s.heap.objs.size], _, _, _, fun i => bs.getD i true, rfl, walkB (show X.A.in1.handled = none from I.ok.hd hc) b _ a hne its.toArray, ?_, ?_, ?_⟩)
  · refine ⟨?_, p.mv fun o e => Heap.get?_push_of_some _ e⟩
    cases b <;> exact ⟨_, Heap.get?_push_size _ rfl, rfl, rfl⟩
  · intro i v s' Q' E' hv hQ
    have hv' : its[i]? = some v := by simpa using hv
    have hi := (List.getElem?_eq_some_iff.mp hv').1
    have e : (List.map V.bl bs)[i]? = some (V.bl (bs.getD i true)) := by
      rw [List.getElem?_map, List.getD_eq_getElem?_getD, List.getElem?_eq_getElem (by lia)]
      rfl
    obtain ⟨u', e', ru⟩ := r.get e
    rw [hv'] at e'
    obtain rfl := Option.some.inj e'
    obtain rfl : v = Value.bool (bs.getD i true) := ru
    exact wpAny_truthy_bool hQ
  · intro h' tk hk
    refine ⟨.bl (bs.all id), H, I.kept (t' := tk) fun c o e => hk c o ?_ (Heap.get?_push_of_some _ e), ?_, q⟩
    · exact fun z => Nat.ne_of_lt (Heap.lt_size e) (List.mem_singleton.mp z)
    · show Value.bool _ = Value.bool _
      congr 1
      rw [List.size_toArray, hl, Bool.eq_iff_iff, List.all_eq_true, List.all_eq_true]
      constructor
      · intro h x hx
        obtain ⟨j, hj, e⟩ := List.getElem_of_mem hx
        have at_j := h j (List.mem_range.mpr hj)
        rw [List.getD_eq_getElem?_getD, List.getElem?_eq_getElem hj] at at_j
        rw [← e]; exact at_j
      · intro h j hj
        rw [List.getD_eq_getElem?_getD, List.getElem?_eq_getElem (List.mem_range.mp hj)]
        exact h _ (List.getElem_mem _)
end
example (K : PySem.W.Frag) : PySem.W.kitOne K (.type "int") (.type "tuple") = some false := by rfl
example (K : PySem.W.Frag) : PySem.W.kitOne K (.type "int") (.type "bool") = some false := by first | rfl | decide | (with_unfolding_all rfl)
end L2
end
section
set_option maxHeartbeats 4000001
namespace L2
open PySem PySem.Spec PyProof.Rows Own
theorem same_new {H : Hp} {p : Addr} (h : H p = none) (o : HO) : Same H (upd H p o) := fun b u q => by rw [upd_ne (ne_of_none q h)]; exact q
def capB (N N' : List Str) (sc scope : Scope) (cap : List (Option Nat)) : Bool :=
  decide (scope.kind = .function) && (scope.names.all fun y => decide (y.2 ≠ .cell) && (decide (y.2 ≠ .local) || decide (scope.names.lookup y.1 = some .local)) &&
    (decide (y.2 ≠ .free) || (decide (sc.names.lookup y.1 = some .cell) || decide (sc.names.lookup y.1 = some .free)))) && decide (cap.length = N'.length) &&
  ((N'.zip cap).all fun p => match p.2 with
    | none => true
    | some i => decide (N[i]? = some p.1) && (decide (scope.names.lookup p.1 = some .free) && (decide (sc.names.lookup p.1 = some .cell) || decide (sc.names.lookup p.1 = some .free))))
theorem CapOk.of {N N' : List Str} {sc scope : Scope} {cap : List (Option Nat)} (h : capB N N' sc scope cap = true) : CapOk N N' sc scope cap := by
  unfold capB at h
  simp only [Bool.and_eq_true, List.all_eq_true, Bool.or_eq_true, decide_eq_true_eq] at h
  obtain ⟨⟨⟨h1, h2⟩, h3⟩, h4⟩ := h; refine ⟨h1, fun y hy => (h2 y hy).1.1, fun y hy e => ?_, fun y hy e => ?_, h3, fun p hp i e => ?_⟩
  · rcases (h2 y hy).1.2 with z | z
    · exact absurd e z
    · exact z
  · rcases (h2 y hy).2 with z | z
    · exact absurd e z
    · exact z
  · have q := h4 p hp
    rw [e] at q
    simp only [Bool.and_eq_true, Bool.or_eq_true, decide_eq_true_eq] at q
    exact q
def Nx (n i : Nat) (p : Prop) : Prop := ∃ m', m' < n - i ∧ m' = n - (i + 1) ∧ i + 1 ≤ n ∧ p
theorem nx {n i : Nat} {p : Prop} (h : i < n) (q : p) : Nx n i p := ⟨n - (i + 1), by lia, rfl, h, q⟩
theorem lc_range {lo : Int} {n : Nat} {g : TG} {te : TE} {l : Addr} {σ : St} {H : Hp} {Q : VK} (Pv : Nat → List V → St → Hp → Prop) (h0 : Pv 0 [] σ H) (hl : ∀ i acc σ H, Pv i acc σ H → H l = some (.lst acc))
    (hs : ∀ i acc σ H, i < n → Pv i acc σ H → g (.int (lo + i)) σ H fun σ3 H3 => te σ3 H3 fun y H5 => H5 l = some (.lst acc) ∧ acc.length < sizeLine ∧ Nx n i (Pv (i + 1) (acc ++ [y]) σ3 (upd H5 l (.lst (acc ++ [y])))))
    (hd : ∀ acc σ H, Pv n acc σ H → Q (.ref l) H) : ∃ W : Nat → Nat → List V → St → Hp → Prop, (∃ m, W 0 m [] σ H) ∧ LCW (Itr lo n) g tYes te l Q W := by
  refine ⟨fun i m acc σ H => m = n - i ∧ i ≤ n ∧ Pv i acc σ H, ⟨n, by simp, Nat.zero_le _, h0⟩, ?_⟩
  rintro i m acc σ H ⟨rfl, hi, p⟩
  refine ⟨hl i acc σ H p, ?_⟩
  by_cases hlt : i < n
  · refine .inr ⟨hlt, fun x H2 ⟨e, y⟩ => ?_⟩
    subst e y
    exact hs i acc σ _ hlt p
  · have e : i = n := by lia
    subst e
    exact .inl ⟨Nat.le_refl _, hd acc σ H p⟩
end L2
end
section
set_option maxHeartbeats 4000001
namespace L2
open PySem PySem.Spec PyProof.Rows Own
section
variable {X : Cx}
theorem num_at {ns : List Int} {its : List Value} (r : Vals (ns.map V.int) its) {i : Nat} {v : Value} (h : its[i]? = some v) : i < ns.length ∧ ∃ t, v = .int (ns.getD i 0) t := by
  have hl : its.length = ns.length := by rw [← r.length, List.length_map]
  have hi := (List.getElem?_eq_some_iff.mp h).1
  have e : (List.map V.int ns)[i]? = some (V.int (ns.getD i 0)) := by
    rw [List.getElem?_map, List.getD_eq_getElem?_getD, List.getElem?_eq_getElem (by lia)]; rfl
  obtain ⟨u', e', ⟨t, rfl⟩⟩ := r.get e
  rw [h] at e'
  exact ⟨by lia, t, Option.some.inj e'⟩
theorem getD_mem {ns : List Int} {i : Nat} (h : i < ns.length) : ns.getD i 0 ∈ ns := by
  rw [List.getD_eq_getElem?_getD, List.getElem?_eq_getElem h]; exact List.getElem_mem h
theorem mem_getD {ns : List Int} {x : Int} (h : x ∈ ns) : ∃ i, i < ns.length ∧ ns.getD i 0 = x := by
  obtain ⟨i, hi, e⟩ := List.getElem_of_mem h
  exact ⟨i, hi, by rw [List.getD_eq_getElem?_getD, List.getElem?_eq_getElem hi]; exact e⟩
theorem call_minB (hc : X.calm = true) (b : Bool) : CallR X (.builtin "min") (fun vs H Q => ∃ a ns, vs = [.ref a] ∧ SqB b X.K H a (List.map V.int ns) ∧ 0 < ns.length ∧ ∀ M, M ∈ ns → (∀ x ∈ ns, M ≤ x) → Q (.int M) H) := by
  intro pins s σ H vs us Q I rv h
  obtain ⟨a, ns, rfl, hq, hpos, q⟩ := h
  obtain ⟨u, rfl, ru⟩ := rv.one
  cases ru
  obtain ⟨its, r, p⟩ := I.sq hq
  obtain ⟨o, n, eo, _⟩ := p.ob
  have hl : its.length = ns.length := by rw [← r.length, List.length_map]
  refine call_min_walk (iter_of p ⟨s.heap.objs.size, [s.heap.objs.size, a], [s.heap.objs.size], _, _, _, fun i j => decide (ns.getD i 0 < ns.getD j 0), rfl, walkB (show X.A.in1.handled = none from I.ok.hd hc) b _ a (Nat.ne_of_lt (Heap.lt_size eo)) its.toArray, ⟨?_, p.mv fun o e => Heap.get?_push_of_some _ e⟩, fun c hm => ?_, by rw [List.size_toArray]; lia, ?_, ?_⟩)
  · cases b <;> exact ⟨_, Heap.get?_push_size _ rfl, rfl, rfl⟩
  · show c < (s.heap.push _).objs.size
    rw [Heap.size_push]
    rcases List.mem_cons.mp hm with z | z
    · rw [z]; exact Nat.lt_succ_self _
    · rw [List.mem_singleton.mp z]; exact Nat.lt_succ_of_lt (Heap.lt_size eo)
  · intro i j vi vj s' Q' E' hi hj hQ
    obtain ⟨_, t, rfl⟩ := num_at r (i := i) (by simpa using hi)
    obtain ⟨_, t', rfl⟩ := num_at r (i := j) (by simpa using hj)
    exact lt_int hQ
  · intro v h' tk hv hk
    have best := argBest_lt (fun i => ns.getD i 0) (its.toArray.size - 1)
    obtain ⟨li, t, rfl⟩ := num_at r (by simpa using hv)
    refine ⟨.int _, H, I.kept (t' := tk) fun c o e => hk c o (fun z => Nat.ne_of_lt (Heap.lt_size e) (List.mem_singleton.mp z)) (Heap.get?_push_of_some _ e), ⟨t, rfl⟩, q _ (getD_mem li) fun x hx => ?_⟩
    obtain ⟨j, hj, rfl⟩ := mem_getD hx
    exact best.2 j (by rw [List.size_toArray]; lia)
end
end L2
end
section
set_option maxHeartbeats 4000001
namespace Own
open PySem PySem.Spec PyProof.Rows
section
variable {prog : Program} {w : World} {A : Around} {E : Value → Shared → Prop} {s : Shared}
end
end Own
namespace L2
open PySem PySem.Spec PyProof.Rows Own
section
variable {X : Cx}
def tRev (K : PySem.W.Frag) (te : TE) (ts : TO) : TE := fun σ H Q => te σ H fun x H1 => ts σ H1 fun o H2 => o = some (-1) ∧ ∃ a xs, x = .ref a ∧ SqL K H2 a xs ∧ ∀ p, H2 p = none → Q (.ref p) (upd H2 p (.lst xs.reverse))
theorem pe_rev {e st : Expr} {te : TE} {ts : TO} {p2 pos : Pos} (he : PE X e te) (hs : PO X (some st) ts) : PE X (.Subscript e (.Slice none none (some st) p2) pos) (tRev X.K te ts) := by
  intro pins s σ H Q I h
  refine Subscript_ (thn (he pins s σ H _ I h) fun v s1 ⟨x, H1, I1, r1, q1⟩ => wpAny_Slice ?_)
  rw [evalPart_none]
  refine wpAny_pure (wpAny_pure (thn (hs pins s1 σ H1 _ I1 q1) fun vst s2 ⟨o, H2, I2, po, q2⟩ => ?_))
  obtain ⟨rfl, a, xs, rfl, hq, k⟩ := q2
  cases r1
  have I3 : Inv X pins σ H2 { s2 with heap := s2.heap.push { cls := .type "slice", data := .fields #[.none, .none, vst] } } := I2.kept (t' := s2.toks) fun b ob q => Heap.get?_push_of_some _ q
  obtain ⟨its, r, ht, hz⟩ := I3.list hq
  have hlen := r.length
  show wpAny (model X.prog X.w) X.A (subscriptTail e (.Slice none none (some st) p2) (.ref a) (.ref s2.heap.objs.size)) (EP X pins σ Q) X.xe { s2 with heap := s2.heap.push { cls := .type "slice", data := .fields #[.none, .none, vst] } }
  refine tail_any (ops := [.ref a, .ref s2.heap.objs.size]) ht.isList.typeIs slot_list_getitem.lookup (wpAny_getItem_list_slice ht.isList (Heap.IsSliceOf.new ..) .none .none po (by simp) ?_ (by rw [List.size_toArray] <;> lia)) (by with_unfolding_all rfl)
  rw [PySem.W.krv_pick]
  refine ⟨.ref _, _, I3.laid (t' := s2.toks) (o := .lst xs.reverse) (fun b ob q => Heap.get?_push_of_some _ q) (Nat.le_refl _) ⟨by rw [List.length_reverse]; exact hz, _, 0, r.reverse, ?_⟩, rfl, k _ (I3.hok.fresh (Nat.le_refl _))⟩
  exact Heap.get?_push_size _ rfl
end
end L2
end
section
set_option maxHeartbeats 4000001
namespace L2
open PySem PySem.Spec PyProof.Rows Own
section
variable {X : Cx}
end
theorem lc_tup {K : PySem.W.Frag} {a : Addr} {xs : List V} {g : TG} {te : TE} {l : Addr} {σ : St} {H : Hp} {Q : VK} (Pv : Nat → List V → St → Hp → Prop) (h0 : Pv 0 [] σ H) (hl : ∀ i acc σ H, Pv i acc σ H → H l = some (.lst acc) ∧ SqT K H a xs)
    (hs : ∀ i x acc σ H, xs[i]? = some x → Pv i acc σ H → g x σ H fun σ3 H3 => te σ3 H3 fun y H5 => H5 l = some (.lst acc) ∧ acc.length < sizeLine ∧ Nx xs.length i (Pv (i + 1) (acc ++ [y]) σ3 (upd H5 l (.lst (acc ++ [y])))))
    (hd : ∀ acc σ H, Pv xs.length acc σ H → Q (.ref l) H) : ∃ W : Nat → Nat → List V → St → Hp → Prop, (∃ m, W 0 m [] σ H) ∧ LCW (Itt K a) g tYes te l Q W := by
  refine ⟨fun i m acc σ H => m = xs.length - i ∧ i ≤ xs.length ∧ Pv i acc σ H, ⟨_, rfl, Nat.zero_le _, h0⟩, ?_⟩
  rintro i m acc σ H ⟨rfl, hi, p⟩
  obtain ⟨q0, q1⟩ := hl i acc σ H p
  refine ⟨q0, ?_⟩
  by_cases hlt : i < xs.length
  · refine .inr ⟨⟨xs, xs[i], q1, List.getElem?_eq_getElem hlt⟩, fun x H2 ⟨e, y⟩ => ?_⟩
    subst e
    exact hs i x acc σ _ (y xs q1) p
  · obtain rfl : i = xs.length := by lia
    exact .inl ⟨⟨xs, q1, Nat.le_refl _⟩, hd acc σ H p⟩
theorem lc_list {K : PySem.W.Frag} {a : Addr} {xs : List V} {g : TG} {te : TE} {l : Addr} {σ : St} {H : Hp} {Q : VK} (Pv : Nat → List V → St → Hp → Prop) (h0 : Pv 0 [] σ H) (hl : ∀ i acc σ H, Pv i acc σ H → H l = some (.lst acc) ∧ SqL K H a xs)
    (hs : ∀ i x acc σ H, xs[i]? = some x → Pv i acc σ H → g x σ H fun σ3 H3 => te σ3 H3 fun y H5 => H5 l = some (.lst acc) ∧ acc.length < sizeLine ∧ Nx xs.length i (Pv (i + 1) (acc ++ [y]) σ3 (upd H5 l (.lst (acc ++ [y])))))
    (hd : ∀ acc σ H, Pv xs.length acc σ H → Q (.ref l) H) : ∃ W : Nat → Nat → List V → St → Hp → Prop, (∃ m, W 0 m [] σ H) ∧ LCW (Itl K a) g tYes te l Q W := by
  refine ⟨fun i m acc σ H => m = xs.length - i ∧ i ≤ xs.length ∧ Pv i acc σ H, ⟨_, rfl, Nat.zero_le _, h0⟩, ?_⟩
  rintro i m acc σ H ⟨rfl, hi, p⟩
  obtain ⟨q0, q1⟩ := hl i acc σ H p
  refine ⟨q0, ?_⟩
  by_cases hlt : i < xs.length
  · refine .inr ⟨⟨xs, xs[i], q1, List.getElem?_eq_getElem hlt⟩, fun x H2 ⟨e, y⟩ => ?_⟩
    subst e
    exact hs i x acc σ _ (y xs q1) p
  · obtain rfl : i = xs.length := by lia
    exact .inl ⟨⟨xs, q1, Nat.le_refl _⟩, hd acc σ H p⟩
end L2
end
section
set_option maxHeartbeats 4000001
namespace L2
open PySem PySem.Spec PyProof.Rows PySem.Calls PySem.NumText Own
theorem looks_limit {M : Model} {K : PySem.W.Frag} {h : Heap} (X : K.In h) (e : PySem.W.nsIn K cStatics "sys.int_max_str_digits" = some none) : PySem.W.Looks M h Builtin.intMaxStrDigits 4300 := by
  show PySem.W.Looks M h (nsGet cStatics "sys.int_max_str_digits" >>= _) 4300
  exact (PySem.W.looks_nsIn X e).andThen .now
theorem wp_long {M : Model} {A : Around} {E : Value → Shared → Prop} {s : Shared} {Q : Value → Shared → Prop} {v : Value} {text : List Nat} {n : Int}
    (hl : PySem.W.Looks M s.heap Builtin.intMaxStrDigits 4300) (hs : ¬ (text.takeWhile (· != 0)).length ≤ 640) (hr : (int_private% "readNumeral") 4300 10 (text.takeWhile (· != 0)) = (int_private% "Numeral.value") n)
    (ha : ((text.takeWhile (· != 0)).length == text.length) = true) (h : Q (.int n s.toks) { s with toks := s.toks + 1 }) : wpAny M A ((int_private% "intFromText") v text 10) Q E s := by
  cases s
  repeat (any_goals (first | assumption | (with_reducible refine wpAny_ite_false (decide_eq_false hs) ?_) | ((with_reducible show wpAny _ _ Builtin.intMaxStrDigits _ _ _); refine PySem.W.Looks.at hl ?_) | wp_step))
  all_goals (try (rw [hr]; dsimp only))
  repeat (any_goals (first | assumption | (with_reducible refine wpAny_ite_true (by rw [ha]; rfl) ?_) | wp_step))
theorem meets_long {K : PySem.W.Frag} {x : Str} {u : Tok} {n : Int} (e : PySem.W.nsIn K cStatics "sys.int_max_str_digits" = some none) (hl : x.length ≤ 4300) (h6 : ¬ (numSeenOf x).length ≤ 640) (hn : intText? x = some n) :
    Meets (Builtin.«int.__new__» ⟨[.type "int", .str x u], []⟩) (fun _ R s => K.In s.heap ∧ R (.ok (.ret (.int n s.toks))) { s with toks := s.toks + 1 }) :=
  .of_wp fun prog w A R s h => by
    cases s with
    | mk hp gs dr tk os =>
    obtain ⟨KX, h⟩ := h
    have kinds := And.intro PySem.W.KIN.str_int (And.intro PySem.W.KIN.str_idx PySem.W.KIN.str_trunc)
    obtain ⟨k1, k2, k3⟩ := kinds
    have k4 := F.conv_sub_int; have k5 := F.madeHere_int
    have ofText : typeOf (.str x u) = pure (.type "str") := rfl
    have lk : PySem.W.Looks (model prog w) hp Builtin.intMaxStrDigits 4300 := looks_limit KX e
    have rd : (int_private% "readNumeral") 4300 10 (numSeenOf x) = (int_private% "Numeral.value") n ∧ ((numSeenOf x).length == (numTextOf x).length) = true := by
      rcases read4300 x (Nat.le_trans hl (by decide)) with ⟨m, g1, g2, g3⟩ | ⟨g1, _⟩
      · rw [hn] at g1; cases g1; exact ⟨g3, g2⟩
      · rw [hn] at g1; cases g1
    have all4 := PySem.W.KIN.Hid.mk (And.intro lk (And.intro h6 rd))
    clear lk h6 rd hl hn e KX
    repeat (any_goals (first | assumption | ((with_reducible show wpAny _ _ ((int_private% "intFromText") _ _ _) _ _ _); refine wp_long all4.out.1 all4.out.2.1 all4.out.2.2.1 all4.out.2.2.2 ?_) | wp_step))
    all_goals (first | exact Exists.intro _ (And.intro rfl h) | skip)
section
variable {X : Cx}
theorem call_intLong (e : PySem.W.nsIn X.K cStatics "sys.int_max_str_digits" = some none) : CallR X (.type "int") (fun vs H Q => ∃ x : Str, vs = [.str x] ∧ AllDigits x.cps.toList ∧ 640 < x.length ∧ x.length ≤ 4300 ∧ Q (.int (digitsVal x.cps.toList : Nat)) H) := by
  intro pins s σ H vs us Q I rv h
  obtain ⟨x, rfl, hd, h6, h43, q⟩ := h
  obtain ⟨u, rfl, t, rfl⟩ := rv.one
  have xl : x.cps.toList.length = x.length := by simp [Str.length]
  have ne : x.cps.toList ≠ [] := fun z => by rw [z] at xl; simp at xl; lia
  have hn := intText_digits hd ne h43
  have seen : (numSeenOf x).length = x.length := by
    rcases read4300 x (Nat.le_trans h43 (by decide)) with ⟨m, g1, g2, g3⟩ | ⟨g1, _⟩
    · have a128 : x.cps.all (· < 128) = true := by
        rw [← Array.all_toList]; refine List.all_eq_true.mpr fun c hc => ?_
        have := (hd c hc).2
        exact decide_eq_true (show c < 128 by lia)
      have g2' := eq_of_beq g2
      rw [g2']
      show (if x.cps.all (· < 128) = true then x.cps.toList else _).length = _
      rw [if_pos a128, xl]
    · rw [hn] at g1; cases g1
  exact call_int_1 (meets_long (K := X.K) e h43 (by lia) hn) ⟨I.kIn, (typeIs_int _ _ _), .int _, H, I.tok _, ⟨_, rfl⟩, q⟩
theorem op_repS : OpR X (binaryOp .Mult) (fun x y H Q => ∃ (c : Nat) (n : Int), x = .str ⟨#[c]⟩ ∧ y = .int n ∧ 0 ≤ n ∧ n ≤ 100000 ∧ ∀ z : Str, z.cps.toList = List.replicate n.toNat c → Q (.str z) H) := by
  intro pins s σ H x y v u Q I rx ry h
  obtain ⟨c, n, rfl, rfl, n0, n1, q⟩ := h
  obtain ⟨t, rfl⟩ := rx
  obtain ⟨t', rfl⟩ := ry
  have one : (⟨#[c]⟩ : Str).length = 1 := rfl
  refine PySem.P.mul_str (by rw [decide_eq_false (by lia), decide_eq_false (by lia)]; rfl) (fun a b => ?_) (fun a b => ?_) ?_
  · rw [one]
    have : (1 : Int) ≤ (2 ^ 63 - 1) / n := by
      rw [Int.le_ediv_iff_mul_le (by lia)]; lia
    lia
  · rw [one]
    exact decide_eq_false (by have := sizeLine_eq; lia)
  · by_cases a : n < 1
    · rw [if_pos a]
      have e : n = 0 := by lia
      subst e
      exact ⟨by decide, .str _, H, I.tok _, ⟨_, rfl⟩, q _ rfl⟩
    · rw [if_neg a]
      by_cases b : n = 1
      · subst b
        rw [if_pos (show ((1 : Int) == 1 || (⟨#[c]⟩ : Str).length == 0) = true from rfl)]
        exact ⟨.str _, H, I, ⟨_, rfl⟩, q _ rfl⟩
      · have nb : ¬ (n == 1 || (⟨#[c]⟩ : Str).length == 0) = true := by simp [b, one]
        rw [if_neg nb]
        have lst : ∀ (k : Nat) (acc : Array Nat), ((List.replicate k #[c]).foldl (· ++ ·) acc).toList = acc.toList ++ List.replicate k c := fun k => by
          induction k with
          | zero => intro acc; simp
          | succ k ih => intro acc; rw [List.replicate_succ, List.foldl_cons, ih, List.replicate_succ]; simp
        have l0 := lst n.toNat #[]
        refine ⟨?_, .str _, H, I.tok _, ⟨_, rfl⟩, q _ (by rw [l0]; rfl)⟩
        have ln := congrArg List.length l0
        simp only [Array.length_toList, List.length_append, List.length_replicate] at ln
        show (Array.size _) ≤ sizeLine
        rw [ln]
        have := sizeLine_eq
        simp
        lia
end
end L2
end
section
set_option maxHeartbeats 4000001
namespace L2
open PySem PySem.Spec PyProof.Rows Own
section
variable {prog : Program} {w : World} {A : Around} {E : Value → Shared → Prop} {s : Shared}
theorem collect_rng {Q : List Value → Shared → Prop} {r : Addr} {a b c : Int} {t u v : Tok} {n : Nat} (hh : A.handled = none) (hr : IsRange s.heap r a b c t u v) (sm : Builtin.Range.small a b c = true) (hn : Builtin.Range.rangeSize a b c = n) (hlen : n ≤ 2 ^ 24)
    (q : ∀ (h' : Heap) (tk : Nat) (acc : Array Value), (∀ b o, s.heap.get? b = some o → h'.get? b = some o) → ItemsOf (fun i v => ∃ t, v = .int (a + i * c) t) acc n → Q acc.toList { s with heap := h', toks := tk }) : wpAny (model prog w) A (collect (.ref r)) Q E s := by
  have key : ∀ R : Result → Shared → Prop, (∀ (h' : Heap) (tk : Nat) (acc : Array Value) (c' : Nat), (∀ b o, s.heap.get? b = some o → h'.get? b = some o) → h'.get? s.heap.objs.size = some { cls := .type "list", data := .seq acc c' } → ItemsOf (fun i v => ∃ t, v = .int (a + i * c) t) acc n → R (.ok (.ret (.ref s.heap.objs.size))) { s with heap := h', toks := tk }) →
      codeAny (model prog w) A (.builtin "proto.collect" ⟨[.ref r], []⟩) R s := by
    intro R hR
    have u1 := fun z => Around.under_plainId (A := A) F.plain_proto_collect z
    have u2 := fun z => Around.under_plainId (A := A) F.plain_list_iadd z
    refine codeAny_builtin F.entry_proto_collect ?_
    rw [u1]
    refine wpAny_bind (m := newList []) (wpAny_newObj_type (wpAny_pure ⟨plainId_quiet F.plain_list_iadd _, codeAny_builtin F.entry_list_iadd ?_⟩))
    rw [u2]
    have e0 : (s.heap.push { cls := .type "list", data := .seq ([] : List Value).toArray }).get? s.heap.objs.size = some { cls := .type "list", data := .seq #[] 0 } := Heap.get?_push_size _ rfl
    exact wpAny_extend_range (s := { s with heap := s.heap.push { cls := .type "list", data := .seq ([] : List Value).toArray } }) hh (Heap.get?_push_of_some _ hr) sm hn hlen s.heap.objs.size (.ref s.heap.objs.size) _ e0 fun h' tk acc' c' kk e it => hR h' tk acc' c' (fun b o z => kk b o (Nat.ne_of_lt (Heap.lt_size z)) (Heap.get?_push_of_some _ z)) e it
  unfold collect
  exact wpAny_bind (wpAny_runValue (key _ fun h' tk acc c' kk e it => wpAny_bind (m := load s.heap.objs.size) (wpAny_load e (wpAny_pure (q h' tk acc kk it)))))
theorem meets_tup_rng (r : Addr) (a b c : Int) (t u v : Tok) (n : Nat) (sm : Builtin.Range.small a b c = true) (hn : Builtin.Range.rangeSize a b c = n) (hlen : n ≤ 2 ^ 24) :
    Meets (Builtin.«tuple.__new__» ⟨[.type "tuple", .ref r], []⟩) (fun A R s => A.handled = none ∧ IsRange s.heap r a b c t u v ∧ ∀ (h' : Heap) (tk : Nat) (acc : Array Value), (∀ b o, s.heap.get? b = some o → h'.get? b = some o) → ItemsOf (fun i v => ∃ t, v = .int (a + i * c) t) acc n →
      R (.ok (.ret (.ref h'.objs.size))) { s with heap := h'.push { cls := .type "tuple", data := .seq acc }, toks := tk }) :=
  .of_wp fun prog w A R s h => by
    obtain ⟨hh, hr, h⟩ := h
    have g1 := sub_tuple_self
    have g2 := init_tuple_lookup
    have g3 := madeHere_tuple
    have g4 : s.TypeIs (.ref r) "range" := ⟨_, hr, rfl⟩
    have g5 : A.in1.handled = none := hh
    wp_walk using wpAny_typeOf g4, collect_rng g5 hr sm hn hlen
    intro h' tk acc kk it
    rw [show acc.toList.toArray = acc by simp]
    exact wpAny_bind (m := Builtin.Tuple.tupleExact acc) (wpAny_newObj_type (wpAny_pure ⟨_, rfl, h h' tk acc kk it⟩) (by show acc.size ≤ sizeLine; rw [it.1, sizeLine_eq]; exact hlen))
theorem call_tup_rng {Q : Value → Shared → Prop} {r : Addr} {a b c : Int} {t u v : Tok} {n : Nat} (hh : A.handled = none) (hr : IsRange s.heap r a b c t u v) (sm : Builtin.Range.small a b c = true) (hn : Builtin.Range.rangeSize a b c = n) (hlen : n ≤ 2 ^ 24)
    (q : ∀ (h' : Heap) (tk : Nat) (acc : Array Value), (∀ b o, s.heap.get? b = some o → h'.get? b = some o) → ItemsOf (fun i v => ∃ t, v = .int (a + i * c) t) acc n → Q (.ref h'.objs.size) { s with heap := h'.push { cls := .type "tuple", data := .seq acc }, toks := tk }) :
    wpAny (model prog w) A (call (.type "tuple") [.ref r]) Q E s :=
  callType_new F.called_tuple (by decide) (F.typeCall_tuple_1 _) (F.newCall_tuple_1 _) (fun obj => F.args_object_init_2 obj _) F.entry_tuple_new (meets_tup_rng r a b c t u v n sm hn hlen) ⟨hh, hr, fun h' tk acc kk it => ⟨⟨_, Heap.get?_push_size _ rfl, rfl⟩, q h' tk acc kk it⟩⟩
end
def upTo (n : Nat) : List V := (List.range n).map fun (i : Nat) => V.int i
theorem vals_of_items {acc : Array Value} {n : Nat} (h : ItemsOf (fun i v => ∃ t, v = Value.int (0 + i * 1) t) acc n) : Vals (upTo n) acc.toList := by
  obtain ⟨h1, h2⟩ := h
  have go : ∀ (l : List Value) (k : Nat), (∀ (j : Nat) (v : Value), l[j]? = some v → ∃ t, v = Value.int ((k + j : Nat) : Int) t) → Vals ((List.range l.length).map fun (i : Nat) => V.int ((k + i : Nat) : Int)) l := by
    intro l
    induction l with
    | nil => intro k _; exact .nil
    | cons x l ih =>
      intro k hx
      rw [List.length_cons, List.range_succ_eq_map, List.map_cons, List.map_map]
      refine .cons (by obtain ⟨t, e⟩ := hx 0 x rfl; exact ⟨t, e⟩) ?_
      have := ih (k + 1) fun j v hj => by
        obtain ⟨t, e⟩ := hx (j + 1) v (by simpa using hj)
        exact ⟨t, by rw [e]; congr 1; lia⟩
      refine cast (congrArg (fun z => Vals z l) (List.map_congr_left fun i _ => ?_)) this
      show V.int ((k + 1 + i : Nat) : Int) = V.int ((k + (i + 1) : Nat) : Int)
      congr 2; lia
  have := go acc.toList 0 fun j v hj => by
    obtain ⟨t, e⟩ := h2 j v (by simpa using hj)
    exact ⟨t, by rw [e]; congr 1; lia⟩
  rw [Array.length_toList, h1] at this
  unfold upTo
  refine cast (congrArg (fun z => Vals z acc.toList) (List.map_congr_left fun i _ => ?_)) this
  show V.int ((0 + i : Nat) : Int) = V.int (i : Int)
  rw [Nat.zero_add]
theorem upTo_len (n : Nat) : (upTo n).length = n := by simp [upTo]
section
variable {X : Cx}
def tTyRng (b : Bool) (ta : TA) : TE := fun σ H Q => ta σ H fun vs H1 => ∃ j : Nat, vs = [.int j] ∧ j ≤ 100000 ∧ ∀ l, H1 l = none → Q (.ref l) (upd H1 l (if b = true then .lst (upTo j) else .tup (upTo j)))
theorem small_of {j : Nat} (h : j ≤ 100000) : Builtin.Range.small 0 (j : Int) 1 = true := small_one (by lia) (by lia) (by lia) (by lia)
theorem size_of {j : Nat} : Builtin.Range.rangeSize 0 (j : Int) 1 = ((j : Nat) : Int) := by rw [rangeSize_one]; split <;> lia
theorem pe_lstRng {a : Expr} {ta : TA} {p p2 pos pos2 : Pos} (hc : X.calm = true) (hgl : Gl X "list") (hml : X.mg "list" = none) (hgr : Gl X "range") (hmr : X.mg "range" = none) (ha : PA X [a] ta) (hs : starEach [a] X.env = [(false, eval a X.env)] := by rfl)
    (hs2 : starEach [.Call (.Name "range" p2) [a] [] pos2] X.env = [(false, eval (.Call (.Name "range" p2) [a] [] pos2) X.env)] := by rfl) : PE X (.Call (.Name "list" p) [.Call (.Name "range" p2) [a] [] pos2] [] pos) (tTyRng true ta) := by
  intro pins s σ H Q I h
  refine wpAny_Call_Name_kw (ld_blt I hgl hml (u := .type "list") (by rfl) (PyProof.Rows.callWith_type1 ?_ hs2 rfl))
  rw [hs2]
  refine Calls.spliced_cons (Call_ (ld_blt I hgr hmr boot_range (PyProof.Rows.callWith_type1 (thn (ha pos2 pins s σ H _ I h) fun us s1 ⟨vs, H1, I1, r1, q1⟩ => ?_) hs rfl)))
  obtain ⟨j, rfl, hj, q⟩ := q1
  obtain ⟨u, rfl, t, rfl⟩ := r1.one
  refine call_range_1 (Calls.spliced_nil ?_)
  refine call_list_range (n := j) (I1.ok.hd hc) (IsRange.new ..) (small_of hj) size_of (Nat.le_trans hj (by decide)) fun h' tk acc' c' kk e it => ?_
  have k2 : ∀ b o, s1.heap.get? b = some o → h'.get? b = some o := fun b o z => kk b o (Heap.get?_push_of_some _ z)
  refine ⟨.ref _, _, I1.laid (t' := tk) (o := .lst (upTo j)) k2 ?_ ⟨by rw [upTo_len]; exact Nat.le_trans hj (by decide), acc'.toList, c', vals_of_items it, by simpa using e⟩, rfl, q _ (I1.hok.fresh ?_)⟩
  all_goals (show s1.heap.objs.size ≤ (s1.heap.push _).objs.size; rw [Heap.size_push]; exact Nat.le_succ _)
theorem pe_tupRng {a : Expr} {ta : TA} {p p2 pos pos2 : Pos} (hc : X.calm = true) (hgl : Gl X "tuple") (hml : X.mg "tuple" = none) (hgr : Gl X "range") (hmr : X.mg "range" = none) (ha : PA X [a] ta) (hs : starEach [a] X.env = [(false, eval a X.env)] := by rfl)
    (hs2 : starEach [.Call (.Name "range" p2) [a] [] pos2] X.env = [(false, eval (.Call (.Name "range" p2) [a] [] pos2) X.env)] := by rfl) : PE X (.Call (.Name "tuple" p) [.Call (.Name "range" p2) [a] [] pos2] [] pos) (tTyRng false ta) := by
  intro pins s σ H Q I h
  refine wpAny_Call_Name_kw (ld_blt I hgl hml (u := .type "tuple") (by rfl) (PyProof.Rows.callWith_type1 ?_ hs2 rfl))
  rw [hs2]
  refine Calls.spliced_cons (Call_ (ld_blt I hgr hmr boot_range (PyProof.Rows.callWith_type1 (thn (ha pos2 pins s σ H _ I h) fun us s1 ⟨vs, H1, I1, r1, q1⟩ => ?_) hs rfl)))
  obtain ⟨j, rfl, hj, q⟩ := q1
  obtain ⟨u, rfl, t, rfl⟩ := r1.one
  refine call_range_1 (Calls.spliced_nil ?_)
  refine call_tup_rng (n := j) (I1.ok.hd hc) (IsRange.new ..) (small_of hj) size_of (Nat.le_trans hj (by decide)) fun h' tk acc kk it => ?_
  have k2 : ∀ b o, s1.heap.get? b = some o → h'.get? b = some o := fun b o z => kk b o (Heap.get?_push_of_some _ z)
  have I2 : Inv X pins σ H1 { s1 with heap := h', toks := tk } := I1.kept k2
  refine ⟨.ref h'.objs.size, _, I2.laid (t' := tk) (o := .tup (upTo j)) (fun b o e => Heap.get?_push_of_some _ e) (Nat.le_refl _) ⟨by rw [upTo_len]; exact Nat.le_trans hj (by decide), acc.toList, vals_of_items it, ?_⟩, rfl, q _ (I2.hok.fresh (Nat.le_refl _))⟩
  exact ⟨_, Heap.get?_push_size _ rfl, rfl, 0, by simp, rfl⟩
def insF (i : Nat) (y : Value) : Array Value → Array Value := fun xs => (xs.extract 0 (if (i : Int) < 0 then ((i : Int) + (xs.size : Int)).toNat else min (i : Int).toNat xs.size)).push y ++ xs.extract (if (i : Int) < 0 then ((i : Int) + (xs.size : Int)).toNat else min (i : Int).toNat xs.size)
theorem ins_meets (l : Addr) (its : List Value) (n i : Nat) (t : Tok) (y : Value) (h : i ≤ its.length) (hz : its.length < 100000) : Meets (Builtin.«list.insert» ⟨[.ref l, .int i t, y], []⟩) (fun _ R s => s.heap.get? l = some { cls := .type "list", data := .seq its.toArray n } ∧
    R (.ok (.ret .none)) { s with heap := s.heap.update l (Obj.mapSeq (insF i y)), toks := s.toks }) := by
  have fi : ¬ (!Builtin.List.listFitsIndex (i : Int)) = true := by rw [fitsIndex_both (by lia) (by lia)]; exact Bool.false_ne_true
  have h2 : its.toArray.size ≤ sizeLine := by rw [List.size_toArray, sizeLine_eq]; lia
  exact @AutoSeq1.list_insert_list_int_val_1 l its.toArray n (i : Int) t y fi h2
theorem insF_eq (its : List Value) (i : Nat) (y : Value) (h : i ≤ its.length) : insF i y its.toArray = (its.take i ++ y :: its.drop i).toArray := by
  unfold insF
  have k1 : (if (i : Int) < 0 then ((i : Int) + (its.toArray.size : Int)).toNat else min (i : Int).toNat its.toArray.size) = i := by
    rw [if_neg (by lia), Int.toNat_natCast, List.size_toArray]; lia
  rw [k1]
  apply Array.ext'
  simp
  rw [List.take_of_length_le]; simp
def rInsert : V → List V → Hp → VK → Prop := fun x vs H Q => ∃ l xs y, ∃ i : Nat, x = .ref l ∧ vs = [.int i, y] ∧ H l = some (.lst xs) ∧ i ≤ xs.length ∧ xs.length < 100000 ∧ Q .non (upd H l (.lst (xs.take i ++ y :: xs.drop i)))
theorem mt_insert : MtM X "list.insert" rInsert := by
  intro pins s σ H x vs v us Q I rx rv h
  obtain ⟨l, xs, y, i, rfl, rfl, hH, hi, hz, q⟩ := h
  cases rx
  obtain ⟨u1, u2, rfl, ⟨t, rfl⟩, r2⟩ := rv.two
  obtain ⟨z, its, n, r, hl, e⟩ := I.lstM hH
  refine call_meets F.slot_list_insert ⟨_, e, rfl⟩ F.entry_list_insert (F.args_list_insert_3 _ _ _) (@ins_meets l its n i t u2 (by lia) (by lia)) ⟨e, ?_⟩
  refine ⟨.non, _, I.lset (its' := its.take i ++ u2 :: its.drop i) hH e (insF_eq its i u2 (by lia)) ((r.take i).append (.cons r2 (r.drop i))) ?_, rfl, q⟩
  rw [List.length_append, List.length_cons, List.length_take, List.length_drop, sizeLine_eq]; lia
theorem op_neE (hu : X.A.units < cLine) : OpR X (compareOp .NotEq) (fun x y H Q => ∃ a b xs, x = .ref a ∧ y = .ref b ∧ SqL X.K H a xs ∧ SqL X.K H b [] ∧ Q (.bl (!xs.isEmpty)) H) := by
  intro pins s σ H x y v u Q I rx ry h
  obtain ⟨a, b, xs, rfl, rfl, ha, hb, q⟩ := h
  cases rx; cases ry
  obtain ⟨its, r1, p1, _⟩ := I.list ha
  obtain ⟨jts, r2, p2, _⟩ := I.list hb
  cases r2
  have l1 := r1.length
  cases xs with
  | nil =>
    cases r1
    exact SeqAt.RcNeAt.lists (e := fun _ => true) p1.isList p2.isList rfl hu (fun j h => absurd h (Nat.not_lt_zero _)) X.prog X.w _ _ ⟨.bl _, H, I, rfl, q⟩
  | cons z zs =>
    exact SeqAt.RcNeAt.lists_lengths p1.isList p2.isList (by rw [List.size_toArray, ← l1]; simp) hu X.prog X.w _ _ ⟨.bl _, H, I, rfl, q⟩
end
end L2
end
section
set_option maxHeartbeats 4000001
namespace L2
open PySem PySem.Spec PyProof.Rows Own
section
variable {prog : Program} {w : World} {A : Around} {E : Value → Shared → Prop} {s : Shared}
theorem applied_back {sl : Addr} {t : Tok} {Q : Int × Int × Nat → Shared → Prop} (hs : s.heap.IsSliceOf sl .none .none (.int (-1) t)) (h : Q (1, -1, 2) s) : wpAny (model prog w) A (Builtin.Slice.sliceApplied (.ref sl) (pure (2 : Int))) Q E s := by
  obtain ⟨os, hos, hcs, hds⟩ := id hs
  unfold Builtin.Slice.sliceApplied Builtin.Slice.sliceFields
  refine wpAny_bind (wpAny_bind (wpAny_field hos hds (x := .none) rfl (wpAny_bind (wpAny_field hos hds (x := .none) rfl (wpAny_bind (wpAny_field hos hds (x := .int (-1) t) rfl (wpAny_pure ?_)))))))
  refine wpAny_bind (slicePart_int ?_)
  show wpAny _ _ (if ((-1 : Int) == 0) = true then _ else _) _ _ s
  rw [if_neg (by decide)]
  refine wpAny_bind (slicePart_none (wpAny_bind (slicePart_none (wpAny_bind (wpAny_pure ?_)))))
  show wpAny _ _ (match Builtin.Slice.sliceAdjust none none (-1) (2 : Int) with | (lo, hi) => pure (lo, (-1 : Int), Builtin.Slice.slicePlaces lo hi (-1))) _ _ s
  have e : Builtin.Slice.sliceAdjust none none (-1) (2 : Int) = (1, -1) := by decide
  rw [e]
  have e2 : Builtin.Slice.slicePlaces (1 : Int) (-1) (-1) = 2 := by decide
  show wpAny _ _ (pure ((1 : Int), (-1 : Int), Builtin.Slice.slicePlaces (1 : Int) (-1) (-1))) _ _ s
  rw [e2]
  exact wpAny_pure h
theorem getItem_back {t sl : Addr} {x y : Value} {tk : Tok} {Q : Value → Shared → Prop} (ht : IsTup s.heap t #[x, y]) (hs : s.heap.IsSliceOf sl .none .none (.int (-1) tk)) (h : Q (.ref s.heap.objs.size) { s with heap := s.heap.push { cls := .type "tuple", data := .seq #[y, x] } }) :
    wpAny (model prog w) A (getItem (.ref t) (.ref sl)) Q E s := by
  obtain ⟨os, hos, hcs, hds⟩ := id hs
  have hTs : s.TypeIs (.ref sl) "slice" := ⟨os, hos, hcs⟩
  unfold getItem
  try with_reducible refine wpAny_holding ?_
  first | refine wpAny_bind (wpAny_pure ?_) | skip
  refine wpAny_bind (wpAny_sequenceKey ht.typeIs (by decide) (wpAny_bind (wpAny_callSpecial?_slot (name := Str.ofString "__getitem__") ht.typeIs PyProof.Rows.slot_tuple_getitem (wpAny_call_entry PyProof.Rows.slot_tuple_getitem ht.typeIs PyProof.Rows.entry_tuple_getitem ?_ (PyProof.Rows.args_tuple_getitem _ _)))))
  show wpAny _ _ (Builtin.Tuple.tupleItemsOf (.ref t) >>= _) _ _ s
  refine wpAny_bind (tupleItemsOf_ ht (wpAny_bind (wpAny_typeOf hTs ?_)))
  rw [if_pos (by decide)]
  refine wpAny_bind (applied_back hs ?_)
  show wpAny _ _ (if ((1 : Int) == 0 && (-1 : Int) == 1 && (2 : Nat) == 2) = true then _ else _) _ _ s
  rw [if_neg (by decide)]
  have pk : ((List.range 2).filterMap fun (k : Nat) => (#[x, y] : Array Value)[((1 : Int) + (k : Int) * (-1)).toNat]?).toArray = #[y, x] := rfl
  rw [pk]
  first
    | exact wpAny_bind (m := Builtin.Tuple.tupleExact _) (wpAny_newObj_type (wpAny_pure ⟨_, rfl, wpAny_pure h⟩) (by show 2 ≤ sizeLine; decide))
    | exact wpAny_bind (m := Builtin.Tuple.tupleExact _) (wpAny_newObj_type (wpAny_bind (wpAny_pure (wpAny_pure ⟨_, rfl, wpAny_pure h⟩))) (by show 2 ≤ sizeLine; decide))
    | exact wpAny_bind (wpAny_bind (m := Builtin.Tuple.tupleExact _) (wpAny_newObj_type (wpAny_pure (wpAny_pure ⟨_, rfl, wpAny_pure h⟩)) (by show 2 ≤ sizeLine; decide)))
    | exact wpAny_bind (wpAny_bind (m := Builtin.Tuple.tupleExact _) (wpAny_newObj_type (wpAny_pure ⟨_, rfl, wpAny_pure h⟩) (by show 2 ≤ sizeLine; decide)))
end
section
variable {X : Cx}
def tBack (K : PySem.W.Frag) (te : TE) (ts : TO) : TE := fun σ H Q => te σ H fun x H1 => ts σ H1 fun o H2 => o = some (-1) ∧ ∃ a u v, x = .ref a ∧ SqT K H2 a [u, v] ∧ ∀ p, H2 p = none → Q (.ref p) (upd H2 p (.tup [v, u]))
theorem pe_back {e st : Expr} {te : TE} {ts : TO} {p2 pos : Pos} (he : PE X e te) (hs : PO X (some st) ts) : PE X (.Subscript e (.Slice none none (some st) p2) pos) (tBack X.K te ts) := by
  intro pins s σ H Q I h
  refine Subscript_ (thn (he pins s σ H _ I h) fun v s1 ⟨x, H1, I1, r1, q1⟩ => wpAny_Slice ?_)
  rw [evalPart_none]
  refine wpAny_pure (wpAny_pure (thn (hs pins s1 σ H1 _ I1 q1) fun vst s2 ⟨o, H2, I2, po, q2⟩ => ?_))
  obtain ⟨rfl, a, u1, u2, rfl, hq, k⟩ := q2
  cases r1
  obtain ⟨t, rfl⟩ : ∃ t, vst = .int (-1) t := by cases po; exact ⟨_, rfl⟩
  have I3 : Inv X pins σ H2 { s2 with heap := s2.heap.push { cls := .type "slice", data := .fields #[.none, .none, .int (-1) t] } } := I2.kept (t' := s2.toks) fun b ob q => Heap.get?_push_of_some _ q
  obtain ⟨its, r, ht, hz⟩ := I3.tuple hq
  obtain ⟨w1, w2, rfl, g1, g2⟩ := r.two
  show wpAny (model X.prog X.w) X.A (subscriptTail e (.Slice none none (some st) p2) (.ref a) (.ref s2.heap.objs.size)) (EP X pins σ Q) X.xe { s2 with heap := s2.heap.push { cls := .type "slice", data := .fields #[.none, .none, .int (-1) t] } }
  refine tail_any (ops := [.ref a, .ref s2.heap.objs.size]) ht.typeIs PyProof.Rows.slot_tuple_getitem.lookup (getItem_back ht (Heap.IsSliceOf.new ..) ?_) (by with_unfolding_all rfl)
  exact ⟨.ref _, _, I3.laid (t' := s2.toks) (o := .tup [u2, u1]) (fun b ob q => Heap.get?_push_of_some _ q) (Nat.le_refl _) ⟨by show 2 ≤ sizeLine; decide, [w2, w1], .cons g2 (.cons g1 .nil), TupX.new _ _⟩, rfl, k _ (I3.hok.fresh (Nat.le_refl _))⟩
end
end L2
end
section
set_option maxHeartbeats 4000001
namespace L2
open PySem PySem.Spec PyProof.Rows Own
section
variable {X : Cx}
end
end L2
end
section
set_option maxHeartbeats 4000001
namespace L2
open PySem PySem.Spec PyProof.Rows Own
section
variable {X : Cx}
end
end L2
end
section
set_option maxHeartbeats 4000001
namespace Bn
open PySem L2 Own
def Tups (H H' : Hp) : Prop := ∀ a xs, H a = some (.tup xs) → H' a = some (.tup xs)
theorem Tups.trans {H H1 H2 : Hp} (x : Tups H H1) (y : Tups H1 H2) : Tups H H2 := fun a xs e => y a xs (x a xs e)
theorem Tups.of {H H' : Hp} (s : Same H H') : Tups H H' := fun a _ e => s a _ e
theorem Tups.lst {H : Hp} {l : Addr} {xs ys : List V} (h : H l = some (.lst xs)) : Tups H (upd H l (.lst ys)) := fun a zs e => by
  rw [upd_ne (by rintro rfl; rw [h] at e; cases e)]; exact e
def But (l : Addr) (H H' : Hp) : Prop := ∀ b o, H b = some o → b ≠ l → H' b = some o
theorem But.trans {l : Addr} {H H1 H2 : Hp} (x : But l H H1) (y : But l H1 H2) : But l H H2 := fun b o e n => y b o (x b o e n) n
theorem But.of {l : Addr} {H H1 : Hp} (x : Same H H1) : But l H H1 := fun b o e _ => x b o e
structure PkAt (H : Hp) (l : Addr) : Prop where
  ex : ∃ a b : Int, H l = some (.lst [.int a, .int b]) ∧ 0 ≤ a ∧ 0 ≤ b ∧ b < 2 ^ 31
theorem PkAt.keep {H H' : Hp} {l : Addr} (S : PkAt H l) (s : Same H H') : PkAt H' l := by
  obtain ⟨a, b, h, r⟩ := S.ex
  exact ⟨a, b, s _ _ h, r⟩
theorem PkAt.ne {H : Hp} {l p : Addr} (S : PkAt H l) (h : H p = none) : l ≠ p := by
  obtain ⟨a, b, e, _⟩ := S.ex
  exact ne_of_none e h
theorem PkAt.upd {H : Hp} {l p : Addr} {o : HO} (S : PkAt H l) (h : l ≠ p) : PkAt (upd H p o) l := by
  obtain ⟨a, b, e, r⟩ := S.ex
  exact ⟨a, b, by rw [upd_ne h]; exact e, r⟩
theorem But.tups {H H' : Hp} {l : Addr} (x : But l H H') (S : PkAt H l) : Tups H H' := fun a xs e => x a _ e (by
  rintro rfl
  obtain ⟨_, _, z, _⟩ := S.ex
  rw [z] at e; cases e)
def Prs (H : Hp) : List V → List (Nat × Nat) → Prop
  | [], [] => True
  | p :: ps, f :: fs => (∃ a, p = .ref a ∧ H a = some (.tup [.int f.1, .int f.2])) ∧ Prs H ps fs
  | _, _ => False
theorem Prs.tups {H H' : Hp} (t : Tups H H') : ∀ {ps : List V} {fs : List (Nat × Nat)}, Prs H ps fs → Prs H' ps fs
  | [], [], _ => trivial
  | _ :: _, _ :: _, ⟨⟨a, e, h⟩, r⟩ => ⟨⟨a, e, t _ _ h⟩, r.tups t⟩
theorem Prs.len {H : Hp} : ∀ {ps : List V} {fs : List (Nat × Nat)}, Prs H ps fs → ps.length = fs.length
  | [], [], _ => rfl
  | _ :: _, _ :: _, ⟨_, r⟩ => congrArg (· + 1) r.len
theorem Prs.add {H : Hp} {a : Addr} {f : Nat × Nat} (h : H a = some (.tup [.int f.1, .int f.2])) : ∀ {ps : List V} {fs : List (Nat × Nat)}, Prs H ps fs → Prs H (ps ++ [.ref a]) (fs ++ [f])
  | [], [], _ => ⟨⟨a, rfl, h⟩, trivial⟩
  | _ :: _, _ :: _, ⟨x, r⟩ => ⟨x, r.add h⟩
theorem Prs.get {H : Hp} : ∀ {ps : List V} {fs : List (Nat × Nat)} {i : Nat} {p : V}, Prs H ps fs → ps[i]? = some p → ∃ a f, p = .ref a ∧ fs[i]? = some f ∧ H a = some (.tup [.int f.1, .int f.2])
  | [], [], _, _, _, e => by simp at e
  | _ :: _, f :: _, 0, p, ⟨⟨a, e1, h⟩, _⟩, e => by
    have : _ = p := Option.some.inj e
    subst this
    exact ⟨a, f, e1, rfl, h⟩
  | _ :: _, _ :: _, i + 1, p, ⟨_, r⟩, e => r.get (i := i) (by simpa using e)
structure Nt where
  lanes : Nat
  forks : List (Nat × Nat)
  ends : List Nat
structure Nt.Ok (N : Nt) : Prop where
  l1 : 1 ≤ N.lanes
  l16 : N.lanes ≤ 16
  fm : N.forks.length ≤ 128
  fk : ∀ f ∈ N.forks, f.1 < N.lanes ∧ f.2 < N.lanes ∧ f.1 ≠ f.2
  en : N.ends.Perm (List.range N.lanes)
def nums (es : List Nat) : List V := es.map fun (e : Nat) => V.int e
structure NetAt (H : Hp) (r fr er : Addr) (ps : List V) (N : Nt) : Prop where
  net : H r = some (.tup [.int N.lanes, .ref fr, .ref er])
  forks : H fr = some (.tup ps)
  prs : Prs H ps N.forks
  ends : H er = some (.tup (nums N.ends))
theorem NetAt.tups {H H' : Hp} {r fr er : Addr} {ps : List V} {N : Nt} (t : Tups H H') (h : NetAt H r fr er ps N) : NetAt H' r fr er ps N := ⟨t _ _ h.net, t _ _ h.forks, h.prs.tups t, t _ _ h.ends⟩
def stepF (st : List Int × List Int) (f : Nat × Nat) : List Int × List Int :=
  ((st.1.set f.1 ((st.1.getD f.1 0 + st.1.getD f.2 0 + 1) / 2)).set f.2 ((st.1.getD f.1 0 + st.1.getD f.2 0) / 2), st.2 ++ [(st.1.getD f.1 0 + st.1.getD f.2 0) % 2])
def flowFrom (st : List Int × List Int) (fs : List (Nat × Nat)) : List Int × List Int := fs.foldl stepF st
def flow (fs : List (Nat × Nat)) (cs : List Int) : List Int × List Int := flowFrom (cs, []) fs
def endsM (N : Nt) (cs : List Int) : List Int := N.ends.map fun e => (flow N.forks cs).1.getD e 0
theorem flow_snoc (fs : List (Nat × Nat)) (f : Nat × Nat) (cs : List Int) : flow (fs ++ [f]) cs = stepF (flow fs cs) f := by
  unfold flow flowFrom; rw [List.foldl_append]; rfl
theorem stepF_len (st : List Int × List Int) (f : Nat × Nat) : (stepF st f).1.length = st.1.length := by simp [stepF]
theorem flowFrom_len : ∀ (fs : List (Nat × Nat)) (st : List Int × List Int), (flowFrom st fs).1.length = st.1.length ∧ (flowFrom st fs).2.length = st.2.length + fs.length
  | [], st => ⟨rfl, rfl⟩
  | f :: fs, st => by
    have h := flowFrom_len fs (stepF st f)
    refine ⟨h.1.trans (stepF_len st f), h.2.trans ?_⟩
    simp [stepF]; lia
theorem flow_len (fs : List (Nat × Nat)) (cs : List Int) : (flow fs cs).1.length = cs.length := (flowFrom_len fs (cs, [])).1
theorem flow_turns (fs : List (Nat × Nat)) (cs : List Int) : (flow fs cs).2.length = fs.length := by
  have := (flowFrom_len fs (cs, [])).2
  simpa [flow] using this
theorem flow_take {fs : List (Nat × Nat)} {i : Nat} {f : Nat × Nat} (h : fs[i]? = some f) (cs : List Int) : flow (fs.take (i + 1)) cs = stepF (flow (fs.take i) cs) f := by
  have w := List.getElem?_eq_some_iff.mp h; obtain ⟨hi, e⟩ := w
  rw [List.take_succ_eq_append_getElem hi, flow_snoc, e]
theorem sum_set : ∀ (xs : List Int) (i : Nat) (a : Int), i < xs.length → (xs.set i a).sum = xs.sum - xs.getD i 0 + a
  | [], i, a, h => by simp at h
  | x :: xs, 0, a, _ => by simp; lia
  | x :: xs, i + 1, a, h => by
    have := sum_set xs i a (by simpa using h)
    simp only [List.set_cons_succ, List.sum_cons, this, List.getD_cons_succ]
    lia
theorem set_getD {xs : List Int} {i p : Nat} {a : Int} (h : p < xs.length) : (xs.set i a).getD p 0 = if i = p then a else xs.getD p 0 := by
  rw [List.getD_eq_getElem?_getD, List.getElem?_set]
  by_cases e : i = p
  · subst e; simp [h]
  · simp [e]
theorem halves (c : Int) : (c + 1) / 2 + c / 2 = c := by lia
theorem stepF_sum {st : List Int × List Int} {f : Nat × Nat} (h1 : f.1 < st.1.length) (h2 : f.2 < st.1.length) (ne : f.1 ≠ f.2) : (stepF st f).1.sum = st.1.sum := by
  unfold stepF
  simp only
  rw [sum_set _ _ _ (by rw [List.length_set]; exact h2), sum_set _ _ _ h1, set_getD h2, if_neg ne]
  have := halves (st.1.getD f.1 0 + st.1.getD f.2 0)
  lia
theorem flowFrom_sum : ∀ (fs : List (Nat × Nat)) (st : List Int × List Int), (∀ f ∈ fs, f.1 < st.1.length ∧ f.2 < st.1.length ∧ f.1 ≠ f.2) → (flowFrom st fs).1.sum = st.1.sum
  | [], st, _ => rfl
  | f :: fs, st, h => by
    have hf := h f List.mem_cons_self
    have := flowFrom_sum fs (stepF st f) fun g hg => by
      rw [stepF_len]; exact h g (List.mem_cons_of_mem _ hg)
    exact this.trans (stepF_sum hf.1 hf.2.1 hf.2.2)
theorem sum_perm {xs ys : List Int} (h : xs.Perm ys) : xs.sum = ys.sum := by
  induction h with
  | nil => rfl
  | cons x _ ih => simp [ih]
  | swap x y l => simp; lia
  | trans _ _ a b => exact a.trans b
theorem map_range_getD (xs : List Int) : (List.range xs.length).map (fun e => xs.getD e 0) = xs := by
  refine List.ext_getElem (by simp) fun i h1 h2 => ?_
  rw [List.getElem_map, List.getElem_range, List.getD_eq_getElem?_getD, List.getElem?_eq_getElem h2]; rfl
theorem ends_sum {N : Nt} (ok : N.Ok) {cs : List Int} (h : cs.length = N.lanes) : (endsM N cs).sum = cs.sum := by
  unfold endsM
  rw [sum_perm (ok.en.map _)]
  have e : N.lanes = (flow N.forks cs).1.length := by rw [flow_len, h]
  rw [e, map_range_getD]
  exact flowFrom_sum N.forks (cs, []) fun f hf => by
    have := ok.fk f hf
    simp only [h]; exact this
theorem ends_lt {N : Nt} (ok : N.Ok) {e : Nat} (h : e ∈ N.ends) : e < N.lanes := List.mem_range.mp (ok.en.mem_iff.mp h)
theorem ends_len {N : Nt} (ok : N.Ok) : N.ends.length = N.lanes := by rw [ok.en.length_eq, List.length_range]
theorem at_int {cs : List Int} {i : Nat} (h : i < cs.length) : atI (cs.map V.int) ((i : Nat) : Int) = some (.int (cs.getD i 0)) := by
  refine atI_nat ?_
  rw [List.getElem?_map, List.getD_eq_getElem?_getD, List.getElem?_eq_getElem h]; rfl
theorem ix_at {α : Type} {xs : List α} {i : Nat} (h : i < xs.length) : ixN xs.length ((i : Nat) : Int) = some i := by
  unfold ixN
  rw [if_pos (by lia), if_pos (by lia)]; simp
theorem set_ints (cs : List Int) (i : Nat) (a : Int) : (cs.map V.int).set i (.int a) = (cs.set i a).map V.int := by rw [List.map_set]
structure Mgs (mg : Str → Option Value) : Prop where
  len : mg "len" = none
  range : mg "range" = none
  tuple : mg "tuple" = none
  enum : mg "enumerate" = none
  abs : mg "abs" = none
  zip : mg "zip" = none
  isi : mg "isinstance" = none
  all : mg "all" = none
  sum : mg "sum" = none
  bool : mg "bool" = none
  int : mg "int" = none
  str : mg "str" = none
  max : mg "max" = none
  min : mg "min" = none
  sorted : mg "sorted" = none
  list : mg "list" = none
structure Use (P : Program) (w : World) (K : PySem.W.Frag) (mg : Str → Option Value) (base : Heap) (x : Str) (ps : List Str) (k : Nat) (sp : Sp) (f : Addr) (fd : FuncData) : Prop where
  ok : FnOk P w K mg base CX0 k f fd ps sp
  b : Binds K fd ps []
  kp : PySem.W.keepIn K (.ref f) = true
  m : mg x = some (.ref f)
def spCell (K : PySem.W.Frag) : Sp := fun vs H Q _ => ∃ (a : Addr) (ns : List Int) (k : Int), vs = [.ref a, .int k] ∧ SqL K H a (ns.map V.int) ∧ 0 ≤ k ∧ ∀ x : Int, Q (.int x) H
def spLeft (K : PySem.W.Frag) : Sp := fun vs H Q _ => ∃ (a : Addr) (ns : List Int) (k : Int), vs = [.ref a, .int k] ∧ SqL K H a (ns.map V.int) ∧ ns.length ≤ 63 ∧ 0 ≤ k ∧ k ≤ 1000 ∧ ∀ l H', H l = none → Same H H' → PkAt H' l → Q (.ref l) H'
def spPick : Sp := fun vs H Q _ => ∃ (l : Addr) (m : Int), vs = [.ref l, .int m] ∧ 0 < m ∧ m < 1073741824 ∧ PkAt H l ∧ ∀ (v : Nat) H', (v : Int) < m → PkAt H' l → But l H H' → Q (.int v) H'
def spNet (most : Nat) : Sp := fun vs H Q _ => ∃ l : Addr, vs = [.ref l, .int most] ∧ PkAt H l ∧ ∀ r fr er ps N H', Nt.Ok N → NetAt H' r fr er ps N → PkAt H' l → But l H H' → Q (.ref r) H'
def spFlowed : Sp := fun vs H Q _ => ∃ r fr er ps N c cs, vs = [.ref r, .ref c] ∧ Nt.Ok N ∧ NetAt H r fr er ps N ∧ H c = some (.tup (List.map V.int cs)) ∧ cs.length = N.lanes ∧
  ∀ p lo lt H', Same H H' → H' p = some (.tup [.ref lo, .ref lt]) → H' lo = some (.lst ((flow N.forks cs).1.map V.int)) → H' lt = some (.lst ((flow N.forks cs).2.map V.int)) → Q (.ref p) H'
def spEnds : Sp := fun vs H Q _ => ∃ r fr er ps N c cs, vs = [.ref r, .ref c] ∧ Nt.Ok N ∧ NetAt H r fr er ps N ∧ H c = some (.tup (List.map V.int cs)) ∧ cs.length = N.lanes ∧
  ∀ p H', Same H H' → H' p = some (.tup ((endsM N cs).map V.int)) → Q (.ref p) H'
def Frs (l : Addr) (H : Hp) (x : Addr) : Prop := ∀ b o, H b = some o → b ≠ l → b ≠ x
theorem But.frs {l x : Addr} {H H1 : Hp} (B : But l H H1) (h : H1 x = none) : Frs l H x := fun b o e n => ne_of_none (B b o e n) h
theorem But.upd {l x : Addr} {H H1 : Hp} {o : HO} (B : But l H H1) (f : Frs l H x) : But l H (upd H1 x o) := fun b u e n => by rw [upd_ne (f b u e n)]; exact B b u e n
theorem But.new {l x : Addr} {H H1 : Hp} {o : HO} (B : But l H H1) (h : H1 x = none) : But l H (L2.upd H1 x o) := B.upd (B.frs h)
theorem pick_at {xs : List Nat} {v : Nat} (h : v < xs.length) : ∃ n, n ∈ xs ∧ atI (nums xs) ((v : Nat) : Int) = some (.int n) := by
  refine ⟨xs[v], List.getElem_mem h, atI_nat ?_⟩
  unfold nums
  rw [List.getElem?_map, List.getElem?_eq_getElem h]; rfl
theorem at_nums {es : List Nat} {i : Nat} (h : i < es.length) : atI (nums es) ((i : Nat) : Int) = some (.int es[i]) := by
  refine atI_nat ?_
  unfold nums
  rw [List.getElem?_map, List.getElem?_eq_getElem h]; rfl
theorem nums_len (es : List Nat) : (nums es).length = es.length := by simp [nums]
theorem other_ok {one d lanes : Nat} (h1 : one < lanes) (h2 : d + 1 < lanes) : (one + 1 + d) % lanes < lanes ∧ one ≠ (one + 1 + d) % lanes := by
  refine ⟨Nat.mod_lt _ (by lia), fun e => ?_⟩
  by_cases z : one + 1 + d < lanes
  · rw [Nat.mod_eq_of_lt z] at e; lia
  · rw [Nat.mod_eq_sub_mod (by lia), Nat.mod_eq_of_lt (by lia)] at e; lia
theorem ins_perm {es : List Nat} {i v : Nat} (h : es.Perm (List.range i)) : (es.take v ++ i :: es.drop v).Perm (List.range (i + 1)) := by
  rw [List.range_succ]
  refine List.perm_middle.trans ?_
  rw [List.take_append_drop]
  exact (h.cons i).trans (List.perm_append_comm (l₁ := [i]) (l₂ := List.range i))
theorem nums_ins (es : List Nat) (v i : Nat) : (nums es).take v ++ V.int (i : Int) :: (nums es).drop v = nums (es.take v ++ i :: es.drop v) := by
  unfold nums
  rw [List.map_append, List.map_cons, List.map_take, List.map_drop]
theorem ones_pos (k : Nat) : 0 < PySem.NumText.digitsVal (49 :: List.replicate k 48) := by
  unfold PySem.NumText.digitsVal
  have go : ∀ (k acc : Nat), 0 < acc → 0 < (List.replicate k 48).foldl (fun acc c => acc * 10 + (c - 48)) acc := fun k => by
    induction k with
    | zero => intro acc h; exact h
    | succ k ih => intro acc h; rw [List.replicate_succ, List.foldl_cons]; exact ih _ (by lia)
  rw [List.foldl_cons]
  exact go k _ (by decide)
theorem long_ok {z : Str} {k : Nat} (hz : z.cps.toList = List.replicate k 48) : PySem.NumText.AllDigits ((("1" : Str) ++ z).cps.toList) ∧ (("1" : Str) ++ z).length = k + 1 ∧ 0 < PySem.NumText.digitsVal ((("1" : Str) ++ z).cps.toList) := by
  have e : (("1" : Str) ++ z).cps.toList = 49 :: List.replicate k 48 := by
    show ((("1" : Str).cps ++ z.cps).toList) = _
    rw [Array.toList_append, hz]; rfl
  refine ⟨?_, ?_, ?_⟩
  · rw [e]
    intro c hc
    rcases List.mem_cons.mp hc with q | q
    · lia
    · have := List.eq_of_mem_replicate q; lia
  · have := congrArg List.length e
    rw [Array.length_toList] at this
    show (("1" : Str) ++ z).cps.size = k + 1
    rw [this, List.length_cons, List.length_replicate]
  · rw [e]; exact ones_pos k
end Bn
end
section
set_option maxHeartbeats 4000001
namespace Bn
open PySem L2 Own
def nm (ns : List Nat) (i : Nat) : Nat := ns.getD i 0
theorem nm_get {ns : List Nat} {i : Nat} (h : i < ns.length) : ns[i] = nm ns i := by
  unfold nm; rw [List.getD_eq_getElem?_getD, List.getElem?_eq_getElem h]; rfl
section
variable {ns : List Nat} {n : Nat} (pm : ns.Perm (List.range n))
include pm
theorem nm_len : ns.length = n := by rw [pm.length_eq, List.length_range]
theorem nm_lt {i : Nat} (h : i < n) : nm ns i < n := by
  have l := nm_len pm
  rw [← nm_get (by lia)]
  exact List.mem_range.mp (pm.mem_iff.mp (List.getElem_mem _))
theorem nm_inj {i j : Nat} (hi : i < n) (hj : j < n) (e : nm ns i = nm ns j) : i = j := by
  have l := nm_len pm
  have nd : ns.Nodup := pm.nodup_iff.mpr List.nodup_range
  rw [← nm_get (by lia), ← nm_get (by lia)] at e
  rcases Nat.lt_trichotomy i j with z | z | z
  · exact absurd e (List.pairwise_iff_getElem.mp nd i j (by lia) (by lia) z)
  · exact z
  · exact absurd e.symm (List.pairwise_iff_getElem.mp nd j i (by lia) (by lia) z)
end
def ren (ns : List Nat) (f : Nat × Nat) : Nat × Nat := (nm ns f.1, nm ns f.2)
def Nt.ren (N : Nt) (ns : List Nat) : Nt := ⟨N.lanes, N.forks.map (Bn.ren ns), N.ends.map (nm ns)⟩
theorem map_nm {ns : List Nat} {n : Nat} (l : ns.length = n) : (List.range n).map (nm ns) = ns := by
  refine List.ext_getElem (by simp [l]) fun i h1 h2 => ?_
  rw [List.getElem_map, List.getElem_range, nm_get h2]
theorem ren_ok {N : Nt} (ok : N.Ok) {ns : List Nat} (pm : ns.Perm (List.range N.lanes)) : (N.ren ns).Ok := ⟨ok.l1, ok.l16, by show (N.forks.map _).length ≤ 128; rw [List.length_map]; exact ok.fm, fun f hf => by
  obtain ⟨g, hg, rfl⟩ := List.mem_map.mp hf
  have := ok.fk g hg
  exact ⟨nm_lt pm this.1, nm_lt pm this.2.1, fun e => this.2.2 (nm_inj pm this.1 this.2.1 e)⟩, by
  have := ok.en.map (nm ns)
  rw [map_nm (nm_len pm)] at this
  exact this.trans pm⟩
def Nt.again (N : Nt) (f : Nat × Nat) : Nt := ⟨N.lanes, N.forks ++ [f], N.ends⟩
end Bn
end
section
set_option maxHeartbeats 4000001
namespace L2
open PySem PySem.Spec PyProof.Rows Own
section
variable {X : Cx}
end
end L2
end
section
set_option maxHeartbeats 4000001
namespace L2
open PySem PySem.Spec PyProof.Rows Own
section
variable {prog : Program} {w : World} {A : Around} {E : Value → Shared → Prop} {s : Shared}
end
section
variable {X : Cx}
end
end L2
end
section
set_option maxHeartbeats 4000001
namespace L2
open PySem PySem.Spec PyProof.Rows Own
section
variable {prog : Program} {w : World} {A : Around} {R : Result → Shared → Prop} {I S : Addr} {fp wr : List Addr} {n : Nat} {P B : Nat → Value → Prop} {St : Nat → Heap → Prop}
def BestAt (B : Nat → Value → Prop) (j : Nat) (its : Array Value) : Prop := (j = 0 ∧ its = #[]) ∨ (0 < j ∧ ∃ v, its = #[v, v] ∧ B j v)
theorem maxD_loop (W : Walks prog w A.in1 I fp wr n P St) (away : S ∉ fp) (d : Value) (first : ∀ v, P 0 v → B 1 v)
    (more : ∀ j v b (s : Shared) (Q : Value → Shared → Prop) (E : Value → Shared → Prop), 0 < j → P j v → B j b → (∀ c, B (j + 1) (if c = true then v else b) → Q (.bool c) s) → wpAny (model prog w) A.in1 (richCompare .Gt v b) Q E s) :
    ∀ (m j : Nat) (s : Shared) (its : Array Value) (c : Nat), j + m = n → St j s.heap → s.heap.get? S = some { cls := .type "list", dict := none, data := .seq its c, slots := #[] } → BestAt B j its →
      (∀ v h' tk, (n = 0 ∧ v = d ∨ 0 < n ∧ B n v) → (∀ b o, b ∉ wr → b ≠ S → s.heap.get? b = some o → h'.get? b = some o) → R (.ok (.ret v)) { s with heap := h', toks := tk }) →
      codeAny (model prog w) A (.builtin "max.loop" ⟨[.ref I, .none, .ref S], [("default", d)]⟩) R s := by
  have out : S ∉ wr := fun z => away (W.sub _ z)
  have nm : (toString "max" ++ toString ".loop" : String) = "max.loop" := by decide
  intro m
  induction m with
  | zero =>
    intro j s its c jm st hs best k
    obtain rfl : j = n := by lia
    refine codeAny_builtin F.entry_max_loop (by
      refine Around.under_plainId F.plain_max_loop _ ▸ (show wpAny _ A.in1 (seqItems? (.ref S) >>= _) _ _ _ from ?_)
      refine wpAny_bind (wpAny_seqItems hs rfl (show wpAny _ A.in1 (tryCatch (pyNext (.ref I)) _ >>= _) _ _ _ from wpAny_bind (wpAny_tryCatch (W.done s _ _ st fun h1 tk1 keep => ?_))))
      have hs1 := keep S _ out hs
      rcases best with ⟨j0, rfl⟩ | ⟨jp, v, rfl, bv⟩
      · exact wpAny_bind (wpAny_rule (wpAny_pure (k d _ tk1 (.inl ⟨j0, rfl⟩) fun b o hb _ e => keep b o hb e)))
      · show wpAny _ A.in1 (updateSeq S (fun _ => #[]) >>= _) _ _ _
        exact wpAny_bind (wpAny_updateSeq hs1 rfl (wpAny_bind (wpAny_letGo (wpAny_pure (k v _ tk1 (.inr ⟨jp, bv⟩) fun b o hb bS e => (Heap.get?_update_other _ _ (Ne.symm bS)).trans (keep b o hb e)))))))
  | succ m ih =>
    intro j s its c jm st hs best k
    refine codeAny_builtin F.entry_max_loop (by
      refine Around.under_plainId F.plain_max_loop _ ▸ (show wpAny _ A.in1 (seqItems? (.ref S) >>= _) _ _ _ from ?_)
      refine wpAny_bind (wpAny_seqItems hs rfl (show wpAny _ A.in1 (tryCatch (pyNext (.ref I)) _ >>= _) _ _ _ from wpAny_bind (wpAny_tryCatch (W.item j s _ _ (by lia) st fun v h1 tk1 pv st1 keep => ?_))))
      have hs1 := keep S _ out hs
      rcases best with ⟨rfl, rfl⟩ | ⟨jp, b0, rfl, bb⟩
      · show wpAny _ A.in1 (updateSeq S (fun _ => #[v, v]) >>= _) _ _ _
        refine wpAny_bind (wpAny_updateSeq hs1 rfl ?_)
        rw [nm]
        exact wpAny_pure ⟨plainId_quiet F.plain_max_loop _, ih 1 _ _ _ (by lia) (W.frame _ _ _ st1 fun b hb o e => (Heap.get?_update_other _ _ (fun z : S = b => away (z ▸ hb))).trans e) (Heap.get?_update_self _ hs1 rfl) (.inr ⟨Nat.one_pos, v, rfl, first v pv⟩) fun v' h2 tk2 hv keep2 => k v' h2 tk2 hv fun b o hb bS e => keep2 b o hb bS ((Heap.get?_update_other _ _ (Ne.symm bS)).trans (keep b o hb e))⟩
      · show wpAny _ A.in1 (tryCatch (holding [v, v] (richCompare .Gt v b0 >>= _)) _ >>= _) _ _ _
        refine wpAny_bind (wpAny_tryCatch (wpAny_holding (wpAny_bind (more j v b0 _ _ _ jp pv bb fun yes by' => wpAny_bind (wpAny_holding (wpAny_truthy_bool (wpAny_bind (wpAny_letGo (wpAny_pure ?_)))))))))
        cases yes
        · rw [if_neg Bool.false_ne_true] at by'
          rw [if_neg Bool.false_ne_true]
          refine wpAny_bind (wpAny_letGo ?_)
          rw [nm]
          exact wpAny_pure ⟨plainId_quiet F.plain_max_loop _, ih (j + 1) _ _ _ (by lia) st1 hs1 (.inr ⟨Nat.succ_pos _, b0, rfl, by'⟩) fun v' h2 tk2 hv keep2 => k v' h2 tk2 hv fun b o hb bS e => keep2 b o hb bS (keep b o hb e)⟩
        · rw [if_pos rfl] at by'
          simp only [if_true]
          refine wpAny_bind (wpAny_updateSeq hs1 rfl (wpAny_bind (wpAny_letGo ?_)))
          rw [nm]
          exact wpAny_pure ⟨plainId_quiet F.plain_max_loop _, ih (j + 1) _ _ _ (by lia) (W.frame _ _ _ st1 fun b hb o e => (Heap.get?_update_other _ _ (fun z : S = b => away (z ▸ hb))).trans e) (Heap.get?_update_self _ hs1 rfl) (.inr ⟨Nat.succ_pos _, v, rfl, by'⟩) fun v' h2 tk2 hv keep2 => k v' h2 tk2 hv fun b o hb bS e => keep2 b o hb bS ((Heap.get?_update_other _ _ (Ne.symm bS)).trans (keep b o hb e))⟩)
end
section
variable {prog : Program} {w : World} {A : Around} {E : Value → Shared → Prop} {s : Shared}
theorem fits_maxD (a d : Value) : argsOk "max" ⟨[a], [("default", d)]⟩ := by unfold argsOk; kernel_rfl
theorem maxD_bound (d : Value) : Builtin.Builtins.bindParams "max" ["key", "default"] 0 ⟨[], [("default", d)]⟩ = pure [none, some d] := by kernel_rfl
theorem maxD_walk {x d : Value} {Q : Value → Shared → Prop}
    (h : wpAny (model prog w) A.in1 (pyIter x) (fun it s2 => ∃ (I : Addr) (fp wr : List Addr) (n : Nat) (P B : Nat → Value → Prop) (St : Nat → Heap → Prop), it = .ref I ∧ Walks prog w A.in1 I fp wr n P St ∧ St 0 s2.heap ∧ (∀ b ∈ fp, b < s2.heap.objs.size) ∧ (∀ v, P 0 v → B 1 v) ∧
      (∀ j v b (s : Shared) (Q : Value → Shared → Prop) (E : Value → Shared → Prop), 0 < j → P j v → B j b → (∀ c, B (j + 1) (if c = true then v else b) → Q (.bool c) s) → wpAny (model prog w) A.in1 (richCompare .Gt v b) Q E s) ∧
      ∀ v h' tk, (n = 0 ∧ v = d ∨ 0 < n ∧ B n v) → (∀ b o, b ∉ wr → s2.heap.get? b = some o → h'.get? b = some o) → Q v { s2 with heap := h', toks := tk }) E s) :
    wpAny (model prog w) A (call (.builtin "max") [x] [("default", d)]) Q E s := by
  have nm : (toString "max" ++ toString ".loop" : String) = "max.loop" := by decide
  refine wpAny_call (codeAny_call_builtin F.plain_max F.entry_max ?_)
  simp only [checkBuiltinCall, F.kind_max]
  have body : wpAny (model prog w) A.in1 (Builtin.«max» ⟨[x], [("default", d)]⟩) (fun fin s' => match fin with | .done f => (match (Except.ok f : Result) with | .ok (.ret v) => Q v s' | .ok _ => False | .error e => E e s') | .again c' => c'.quiet = true ∧ codeAny (model prog w) A c' (fun r s' => match r with | .ok (.ret v) => Q v s' | .ok _ => False | .error e => E e s') s') E s := by
    show wpAny _ A.in1 (Builtin.Builtins.bindParams "max" ["key", "default"] 0 ⟨[], [("default", d)]⟩ >>= _) _ _ _
    refine wpAny_bind (wpAny_of_eq (maxD_bound d) (wpAny_bind (wpAny_pure (wpAny_bind (wpAny_mono h (fun it s2 z => ?_) fun _ _ e => e)))))
    obtain ⟨I, fp, wr, n, P, B, St, rfl, W, st, low, first, more, k⟩ := z
    refine wpAny_bind (wpAny_newObj_type (by rw [nm]; exact wpAny_pure ⟨plainId_quiet F.plain_max_loop _, maxD_loop W (fun z => Nat.lt_irrefl _ (low _ z)) d first more n 0 _ _ _ (by lia) (W.frame _ _ _ st fun b _ o e => Heap.get?_push_of_some _ e) (Heap.get?_push_size _ rfl) (.inl ⟨rfl, rfl⟩) fun v h' tk hv keep => k v h' tk hv fun b o hb e => keep b o hb (Nat.ne_of_lt (Heap.lt_size e)) (Heap.get?_push_of_some _ e)⟩))
  have fits := fits_maxD x d
  cases sg : Manifest.signature? "max" with
  | none => exact wpAny_pure body
  | some g =>
    simp only [argsOk, sg] at fits
    have fits' : Bind.checkArgs "max" g ⟨[x], [("default", d)]⟩ = pure () := fits
    show wpAny _ A.in1 (Bind.checkArgs "max" g ⟨[x], [("default", d)]⟩) _ _ _
    rw [fits']; exact wpAny_pure body
end
section
variable {X : Cx} {e e2 : Expr} {ta tb : TE} {p kp pos : Pos}
def rMaxD (K : PySem.W.Frag) (b : Bool) : R2 := fun x y H Q => ∃ a ns d, x = .ref a ∧ y = .int d ∧ SqB b K H a (List.map V.int ns) ∧ (ns = [] → Q (.int d) H) ∧ (ns ≠ [] → ∀ M, M ∈ ns → (∀ z ∈ ns, z ≤ M) → Q (.int M) H)
def Top (ns : List Int) (j : Nat) (v : Value) : Prop := ∃ (M : Int) (t : Tok), v = .int M t ∧ M ∈ ns ∧ ∀ i, i < j → ns.getD i 0 ≤ M
def on1 (f : V → Hp → Prop) : List V → Hp → Prop
  | [x], H => f x H
  | _, _ => False
theorem on1_is {f : V → Hp → Prop} : ∀ {vs : List V} {H : Hp}, on1 f vs H → ∃ x, vs = [x] ∧ f x H
  | [x], _, h => ⟨x, rfl, h⟩
theorem pe_maxD (b : Bool) (hc : X.calm = true) (hg : Gl X "max") (hm : X.mg "max" = none) (ha : PE X e ta) (hd : PE X e2 tb)
    (he : starEach [e] X.env = (false, eval e X.env) :: starEach [] X.env := by rfl)
    (hpl : ((backTo pos (starEach [e] X.env)).any (·.1) || (backToKw pos (keywordEach [⟨some "default", e2, kp⟩] X.env)).any (·.1.isNone)) = false := by rfl)
    (hall : (backToKw pos (keywordEach [⟨some "default", e2, kp⟩] X.env)).all (·.1.isSome) = true := by rfl) (hks : (backToKw pos (keywordEach [⟨some "default", e2, kp⟩] X.env)).filterMap (·.1) = [("default" : Str)] := by rfl) :
    PE X (.Call (.Name "max" p) [e] [⟨some "default", e2, kp⟩] pos) (tOp (rMaxD X.K b) ta tb) := by
  intro pins s σ H Q I h
  refine wpAny_Call_Name_kw (ld_blt I hg hm (u := .builtin "max") (by rfl) ?_)
  refine PySem.W.callWith_of (P := fun _ => True) hpl (fun h _ => ⟨.machine, .inr (.inl rfl), .now⟩) (evalArgs_kw2 hall (thn ((pa_cons (hs := he) ha pa_nil) pos pins s σ H (on1 fun x H1 => tb σ H1 fun y H2 => rMaxD X.K b x y H2 Q) I h) fun us s1 ⟨vs, H1, I1, r1, q1⟩ => ?_) he)
  · obtain ⟨x, rfl, q1⟩ := on1_is q1
    refine thn ((pk_cons hd pk_nil) pos pins s1 σ H1 (on1 fun y H2 => rMaxD X.K b x y H2 Q) I1 q1) fun ws s2 ⟨zs, H2, I2, r2, q2⟩ => ⟨trivial, ?_⟩
    · obtain ⟨y, rfl, q2⟩ := on1_is q2
      obtain ⟨u, rfl, ru⟩ := r1.one
      obtain ⟨v, rfl, rv⟩ := r2.one
      rw [hks]
      obtain ⟨a, ns, d, rfl, rfl, hq, q0, qm⟩ := q2
      obtain ⟨td, rfl⟩ := rv
      cases ru
      obtain ⟨its, r, p⟩ := I2.sq hq
      obtain ⟨o, n, eo, _⟩ := p.ob
      have hl : its.length = ns.length := by rw [← r.length, List.length_map]
      show wpAny _ _ (call (.builtin "max") [.ref a] [("default", .int d td)]) _ _ _
      refine maxD_walk (iter_of p ⟨s2.heap.objs.size, [s2.heap.objs.size, a], [s2.heap.objs.size], its.toArray.size, (fun i v => its.toArray[i]? = some v), Top ns, _, rfl, walkB (show X.A.in1.handled = none from I2.ok.hd hc) b _ a (Nat.ne_of_lt (Heap.lt_size eo)) its.toArray, ⟨?_, p.mv fun o e => Heap.get?_push_of_some _ e⟩, fun c hm => ?_, fun v hv => ?_, ?_, ?_⟩)
      · cases b <;> exact ⟨_, Heap.get?_push_size _ rfl, rfl, rfl⟩
      · show c < (s2.heap.push _).objs.size
        rw [Heap.size_push]
        rcases List.mem_cons.mp hm with z | z
        · exact z ▸ Nat.lt_succ_self _
        · exact (List.mem_singleton.mp z) ▸ Nat.lt_succ_of_lt (Heap.lt_size eo)
      · obtain ⟨l0, t, rfl⟩ := num_at r (i := 0) (by simpa using hv)
        exact ⟨_, t, rfl, getD_mem l0, fun i hi => by obtain rfl : i = 0 := by lia
                                                      exact Int.le_refl _⟩
      · intro j v bv s' Q' E' jp hv ⟨M, t, e1, mem, top⟩ kk
        subst e1
        obtain ⟨lj, t', rfl⟩ := num_at r (i := j) (by simpa using hv)
        refine gt_int (kk _ ?_)
        by_cases g : ns.getD j 0 > M
        · rw [decide_eq_true g, if_pos rfl]
          refine ⟨_, t', rfl, getD_mem lj, fun i hi => ?_⟩
          by_cases z : i = j
          · rw [z]; exact Int.le_refl _
          · have := top i (by lia); lia
        · rw [decide_eq_false g, if_neg Bool.false_ne_true]
          refine ⟨M, t, rfl, mem, fun i hi => ?_⟩
          by_cases z : i = j
          · rw [z]; lia
          · exact top i (by lia)
      · intro v h' tk hv hk
        have I3 := I2.kept (t' := tk) (h' := h') fun c o e => hk c o (fun z => Nat.ne_of_lt (Heap.lt_size e) (List.mem_singleton.mp z)) (Heap.get?_push_of_some _ e)
        rw [List.size_toArray, hl] at hv
        rcases hv with ⟨n0, rfl⟩ | ⟨np, M, t, rfl, mem, top⟩
        · exact ⟨.int d, H2, I3, ⟨td, rfl⟩, q0 (List.length_eq_zero_iff.mp n0)⟩
        · refine ⟨.int M, H2, I3, ⟨t, rfl⟩, qm (by rintro rfl; simp at np) M mem fun z hz => ?_⟩
          obtain ⟨i, hi, rfl⟩ := mem_getD hz
          exact top i hi
end
end L2
end
section
set_option maxHeartbeats 4000001
namespace K33
open PySem L2 Own Bn
def top (i : Nat) : Stmt := PySem.Challenge.pw_stairlanes_k33_whole_shares_come_to_all.main.body.getD i (.Pass ⟨0, 0, 0, 0⟩)
abbrev sCell : Stmt := top 27
abbrev sLeft : Stmt := top 28
abbrev sPick : Stmt := top 29
section
variable {P : Program} {w : World} {K : PySem.W.Frag} {mg : Str → Option Value} {base : Heap}
theorem scC : FnScope ["_law_script", "_law_k"] ["_law_script", "_law_k"] (defScope sCell) := ⟨rfl, rfl, rfl, by decide +kernel, rfl, by decide +kernel, by decide +kernel⟩
theorem ok_cell {f : Addr} {fd : FuncData} (F : Fun K "_law_cell_at" "_law_cell_at" sCell f fd) (G : Mgs mg) : FnOk P w K mg base CX0 1 f fd ["_law_script", "_law_k"] (spCell K) := by
  refine F.ok scC (fun vs H Q E h => ?_) (fun cdv A outer s H vs Q E hr h => ?_)
  · obtain ⟨a, ns, k, rfl, _⟩ := h
    rfl
  obtain ⟨a, ns, k, rfl, hS, k0, q⟩ := h
  refine ⟨_, (@pss_cons _ _ _ _ _ (@ps_if _ _ _ _ _ _ _ _ (@pt_cmpR _ _ _ _ _ _ _ _ op_lt (@pv _ 1 _ _ (by rfl) (by first | exact Or.inl rfl | exact Or.inr (Or.inl rfl) | exact Or.inr (Or.inr rfl)) (by decide) (by decide)) (@pe_callB _ _ _ _ _ _ _ _ _ call_len_seq (by rfl) G.len PySem.boot_len (@pa_cons _ _ _ _ _ (@pv _ 0 _ _ (by rfl) (by first | exact Or.inl rfl | exact Or.inr (Or.inl rfl) | exact Or.inr (Or.inr rfl)) (by decide) (by decide)) pa_nil (by rfl)) (by decide) (by decide) (by rfl) (by rfl)) (nomark _)) (@pss_one _ _ _ (@ps_ret _ _ _ _ (@pe_ix _ _ _ _ _ _ _ ix_list (@pv _ 0 _ _ (by rfl) (by first | exact Or.inl rfl | exact Or.inr (Or.inl rfl) | exact Or.inr (Or.inr rfl)) (by decide) (by decide)) (@pv _ 1 _ _ (by rfl) (by first | exact Or.inl rfl | exact Or.inr (Or.inl rfl) | exact Or.inr (Or.inr rfl)) (by decide) (by decide)) (fun _ _ => rfl)))) pss_nil) (@pss_one _ _ _ (@ps_ret _ _ _ _ pe_int))), ?_⟩
  refine ⟨_, rfl, _, rfl, a, _, rfl, .inl hS, _, _, rfl, rfl, _, rfl, ite2 (fun z => ?_) (fun z => ?_)⟩
  · obtain ⟨j, rfl⟩ := Int.eq_ofNat_of_zero_le k0
    have hj : j < ns.length := by have := of_decide_eq_true z; rw [List.length_map] at this; lia
    exact ⟨_, rfl, _, rfl, a, _, _, _, rfl, rfl, hS, at_int hj, q _⟩
  · exact q 0
theorem scK : FnScope ["_law_left_here", "_law_many", "_law_digit"] ["_law_left_here", "_law_many"] (defScope sPick) := ⟨rfl, rfl, rfl, by decide +kernel, rfl, by decide +kernel, by decide +kernel⟩
theorem ok_pick {f : Addr} {fd : FuncData} (F : Fun K "_law_pick" "_law_pick" sPick f fd) : FnOk P w K mg base CX0 1 f fd ["_law_left_here", "_law_many"] spPick := by
  refine F.ok scK (fun vs H Q E h => ?_) (fun cdv A outer s H vs Q E hr h => ?_)
  · obtain ⟨l, m, rfl, _⟩ := h
    rfl
  obtain ⟨l, m, rfl, m0, m1, S, k⟩ := h
  obtain ⟨a, b, hl, a0, b0, b1⟩ := S.ex
  refine ⟨_, (@pss_cons _ _ _ _ _ (@ps_if _ _ _ _ _ _ _ _ (@pt_cmpR _ _ _ _ _ _ _ _ op_gt (@pe_ix _ _ _ _ _ _ _ ix_list (@pv _ 0 _ _ (by rfl) (by first | exact Or.inl rfl | exact Or.inr (Or.inl rfl) | exact Or.inr (Or.inr rfl)) (by decide) (by decide)) pe_int (fun _ _ => rfl)) pe_int (nomark _)) (@pss_cons _ _ _ _ _ (@ps_set _ _ 2 _ _ _ _ scK.nd rfl (Or.inl rfl) (@pe_op _ _ _ _ _ _ _ _ op_mod (@pe_ix _ _ _ _ _ _ _ ix_list (@pv _ 0 _ _ (by rfl) (by first | exact Or.inl rfl | exact Or.inr (Or.inl rfl) | exact Or.inr (Or.inr rfl)) (by decide) (by decide)) pe_int (fun _ _ => rfl)) (@pv _ 1 _ _ (by rfl) (by first | exact Or.inl rfl | exact Or.inr (Or.inl rfl) | exact Or.inr (Or.inr rfl)) (by decide) (by decide))) (by rfl) (by first | exact .inl rfl | exact .inr rfl | assumption)) (@pss_cons _ _ _ _ _ (@ps_asg _ _ _ _ _ _ (@pe_op _ _ _ _ _ _ _ _ op_fdiv (@pe_ix _ _ _ _ _ _ _ ix_list (@pv _ 0 _ _ (by rfl) (by first | exact Or.inl rfl | exact Or.inr (Or.inl rfl) | exact Or.inr (Or.inr rfl)) (by decide) (by decide)) pe_int (fun _ _ => rfl)) (@pv _ 1 _ _ (by rfl) (by first | exact Or.inl rfl | exact Or.inr (Or.inl rfl) | exact Or.inr (Or.inr rfl)) (by decide) (by decide))) (@pg_sub _ _ _ _ _ _ _ (@pv _ 0 _ _ (by rfl) (by first | exact Or.inl rfl | exact Or.inr (Or.inl rfl) | exact Or.inr (Or.inr rfl)) (by decide) (by decide)) pe_int set_list (by intro _; rfl)) (by rfl) (by rfl) (by rfl)) (@pss_one _ _ _ (@ps_ret _ _ _ _ (@pv _ 2 _ _ (by rfl) (by first | exact Or.inl rfl | exact Or.inr (Or.inl rfl) | exact Or.inr (Or.inr rfl)) (by decide) (by decide)))))) pss_nil) (@pss_cons _ _ _ _ _ (@ps_asg _ _ _ _ _ _ (@pe_op _ _ _ _ _ _ _ _ op_mod (@pe_op _ _ _ _ _ _ _ _ op_add (@pe_op _ _ _ _ _ _ _ _ op_mul (@pe_ix _ _ _ _ _ _ _ ix_list (@pv _ 0 _ _ (by rfl) (by first | exact Or.inl rfl | exact Or.inr (Or.inl rfl) | exact Or.inr (Or.inr rfl)) (by decide) (by decide)) pe_int (fun _ _ => rfl)) pe_int) pe_int) pe_int) (@pg_sub _ _ _ _ _ _ _ (@pv _ 0 _ _ (by rfl) (by first | exact Or.inl rfl | exact Or.inr (Or.inl rfl) | exact Or.inr (Or.inr rfl)) (by decide) (by decide)) pe_int set_list (by intro _; rfl)) (by rfl) (by rfl) (by rfl)) (@pss_one _ _ _ (@ps_ret _ _ _ _ (@pe_op _ _ _ _ _ _ _ _ op_mod (@pe_op _ _ _ _ _ _ _ _ op_mod (@pe_op _ _ _ _ _ _ _ _ op_mul (@pe_ix _ _ _ _ _ _ _ ix_list (@pv _ 0 _ _ (by rfl) (by first | exact Or.inl rfl | exact Or.inr (Or.inl rfl) | exact Or.inr (Or.inr rfl)) (by decide) (by decide)) pe_int (fun _ _ => rfl)) (@pe_ix _ _ _ _ _ _ _ ix_list (@pv _ 0 _ _ (by rfl) (by first | exact Or.inl rfl | exact Or.inr (Or.inl rfl) | exact Or.inr (Or.inr rfl)) (by decide) (by decide)) pe_int (fun _ _ => rfl))) pe_int) (@pv _ 1 _ _ (by rfl) (by first | exact Or.inl rfl | exact Or.inr (Or.inl rfl) | exact Or.inr (Or.inr rfl)) (by decide) (by decide))))))), ?_⟩
  have fin : ∀ (x : Int) (H' : Hp), 0 ≤ x → x < m → PkAt H' l → But l H H' → Q (.int x) H' := fun x H' x0 x1 S' B' => by
    obtain ⟨v, rfl⟩ := Int.eq_ofNat_of_zero_le x0
    exact k v H' x1 S' B'
  refine ⟨_, rfl, l, _, _, _, rfl, rfl, SqL.of hl, rfl, _, _, rfl, rfl, _, rfl, ite2 (fun q => ?_) (fun q => ?_)⟩
  · refine ⟨_, rfl, l, _, _, _, rfl, rfl, SqL.of hl, rfl, _, rfl, _, _, rfl, rfl, m0, ?_⟩
    refine ⟨_, rfl, l, _, _, _, rfl, rfl, SqL.of hl, rfl, _, rfl, _, _, rfl, rfl, ⟨m0, m1⟩, _, rfl, l, _, _, 0, rfl, rfl, hl, rfl, _, rfl, ?_⟩
    exact fin _ _ (Int.emod_nonneg _ (by lia)) (Int.emod_lt_of_pos _ m0) ⟨a / m, b, upd_same, Int.ediv_nonneg a0 (by lia), b0, b1⟩ fun x o e ne => by rw [upd_ne ne]; exact e
  · refine ⟨_, rfl, l, _, _, _, rfl, rfl, SqL.of hl, rfl, _, _, rfl, rfl, .inr ⟨by decide, by decide⟩, _, _, rfl, rfl, _, _, rfl, rfl, (by show (0 : Int) < 2147483647; decide), _, rfl, l, _, _, 1, rfl, rfl, hl, rfl, ?_⟩
    have g0 : 0 ≤ (b * 48271 + 12345) % 2147483647 := Int.emod_nonneg _ (by decide)
    have g1 : (b * 48271 + 12345) % 2147483647 < 2147483647 := Int.emod_lt_of_pos _ (by decide)
    generalize hH : upd H l (HO.lst ([V.int a, V.int b].set 1 (V.int ((b * 48271 + 12345) % 2147483647)))) = H1
    have h1 : H1 l = some (.lst [.int a, .int ((b * 48271 + 12345) % 2147483647)]) := by rw [← hH]; exact upd_same
    refine ⟨_, rfl, l, _, _, _, rfl, rfl, SqL.of h1, rfl, _, rfl, l, _, _, _, rfl, rfl, SqL.of h1, rfl, _, _, rfl, rfl, .inl ⟨by lia, by lia⟩, _, _, rfl, rfl, (by show (0 : Int) < 1999999973; decide), _, rfl, _, _, rfl, rfl, m0, ?_⟩
    exact fin _ _ (Int.emod_nonneg _ (by lia)) (Int.emod_lt_of_pos _ m0) ⟨a, _, h1, a0, g0, by lia⟩ fun x o e ne => by rw [← hH, upd_ne ne]; exact e
theorem scL : FnScope ["_law_script", "_law_k", "_law_cell", "_law_seed"] ["_law_script", "_law_k"] (defScope sLeft) := ⟨rfl, rfl, rfl, by decide +kernel, rfl, by decide +kernel, by decide +kernel⟩
theorem ok_left {f fC : Addr} {fd dC : FuncData} (F : Fun K "_law_left" "_law_left" sLeft f fd) (G : Mgs mg) (zd : PySem.W.nsIn K cStatics "sys.int_max_str_digits" = some none) (UC : Use P w K mg base "_law_cell_at" ["_law_script", "_law_k"] 1 (spCell K) fC dC) : FnOk P w K mg base CX0 2 f fd ["_law_script", "_law_k"] (spLeft K) := by
  refine F.ok scL (fun vs H Q E h => ?_) (fun cdv A outer s H vs Q E hr h => ?_)
  · obtain ⟨a, ns, k, rfl, _⟩ := h
    rfl
  obtain ⟨a, ns, k, rfl, hS, h63, k0, k1, q⟩ := h
  refine ⟨_, (@pss_cons _ _ _ _ _ (@ps_set _ _ 2 _ _ _ _ scL.nd rfl (Or.inl rfl) (@pe_call _ _ _ _ _ _ _ _ _ _ _ _ _ _ _ _ UC.ok hr (by rfl) UC.m UC.kp UC.b .nil pass0 (@pa_cons _ _ _ _ _ (@pv _ 0 _ _ (by rfl) (by first | exact Or.inl rfl | exact Or.inr (Or.inl rfl) | exact Or.inr (Or.inr rfl)) (by decide) (by decide)) (@pa_cons _ _ _ _ _ (@pe_op _ _ _ _ _ _ _ _ op_mod (@pv _ 1 _ _ (by rfl) (by first | exact Or.inl rfl | exact Or.inr (Or.inl rfl) | exact Or.inr (Or.inr rfl)) (by decide) (by decide)) (@pe_callB _ _ _ _ _ _ _ _ _ (call_max2 rfl) (by rfl) G.max (by rfl) (@pa_cons _ _ _ _ _ pe_int (@pa_cons _ _ _ _ _ (@pe_callB _ _ _ _ _ _ _ _ _ call_len_seq (by rfl) G.len PySem.boot_len (@pa_cons _ _ _ _ _ (@pv _ 0 _ _ (by rfl) (by first | exact Or.inl rfl | exact Or.inr (Or.inl rfl) | exact Or.inr (Or.inr rfl)) (by decide) (by decide)) pa_nil (by rfl)) (by decide) (by decide) (by rfl) (by rfl)) pa_nil (by rfl)) (by rfl)) (by decide) (by decide) (by rfl) (by rfl))) pa_nil (by rfl)) (by rfl)) (by decide) (by rfl) (by rfl)) (by rfl) (by first | exact .inl rfl | exact .inr rfl | assumption)) (@pss_cons _ _ _ _ _ (@ps_set _ _ 3 _ _ _ _ scL.nd rfl (Or.inl rfl) (@pe_op _ _ _ _ _ _ _ _ op_mod (@pe_op _ _ _ _ _ _ _ _ op_mul (@pe_op _ _ _ _ _ _ _ _ op_add (@pe_op _ _ _ _ _ _ _ _ op_add (@pe_op _ _ _ _ _ _ _ _ op_mod (@pv _ 2 _ _ (by rfl) (by first | exact Or.inl rfl | exact Or.inr (Or.inl rfl) | exact Or.inr (Or.inr rfl)) (by decide) (by decide)) pe_int) (@pe_op _ _ _ _ _ _ _ _ op_mul (@pe_op _ _ _ _ _ _ _ _ op_mul pe_int (@pv _ 1 _ _ (by rfl) (by first | exact Or.inl rfl | exact Or.inr (Or.inl rfl) | exact Or.inr (Or.inr rfl)) (by decide) (by decide))) (@pv _ 1 _ _ (by rfl) (by first | exact Or.inl rfl | exact Or.inr (Or.inl rfl) | exact Or.inr (Or.inr rfl)) (by decide) (by decide)))) pe_int) pe_int) pe_int) (by rfl) (by first | exact .inl rfl | exact .inr rfl | assumption)) (@pss_one _ _ _ (@ps_ret _ _ _ _ (@pe_lst _ _ _ _ (@pa_cons _ _ _ _ _ (@pe_op _ _ _ _ _ _ _ _ op_mod (@pe_op _ _ _ _ _ _ _ _ op_mul (@pv _ 2 _ _ (by rfl) (by first | exact Or.inl rfl | exact Or.inr (Or.inl rfl) | exact Or.inr (Or.inr rfl)) (by decide) (by decide)) (@pe_callTy _ _ _ _ _ _ _ _ _ call_int1 (by rfl) G.int (by rfl) (@pa_cons _ _ _ _ _ (@pe_cmpR _ _ _ _ _ _ _ _ op_ge (@pv _ 2 _ _ (by rfl) (by first | exact Or.inl rfl | exact Or.inr (Or.inl rfl) | exact Or.inr (Or.inr rfl)) (by decide) (by decide)) (@pe_op _ _ _ _ _ _ _ _ op_pow pe_int pe_int) (nomark _)) pa_nil (by rfl)) (by decide) (by decide) (by rfl) (by rfl))) (@pe_callTy _ _ _ _ _ _ _ _ _ (call_intLong zd) (by rfl) G.int (by rfl) (@pa_cons _ _ _ _ _ (@pe_op _ _ _ _ _ _ _ _ op_add_str pe_str (@pe_op _ _ _ _ _ _ _ _ op_repS pe_str pe_int)) pa_nil (by rfl)) (by decide) (by decide) (by rfl) (by rfl))) (@pa_cons _ _ _ _ _ (@pv _ 3 _ _ (by rfl) (by first | exact Or.inl rfl | exact Or.inr (Or.inl rfl) | exact Or.inr (Or.inr rfl)) (by decide) (by decide)) pa_nil (by rfl)) (by rfl))))))), ?_⟩
  refine ⟨_, rfl, _, rfl, _, rfl, a, _, rfl, .inl hS, _, _, rfl, _, _, rfl, rfl, ?_, ?_⟩
  · split <;> lia
  refine ⟨a, ns, _, rfl, hS, Int.emod_nonneg _ (by split <;> lia), fun x => ?_⟩
  refine ⟨_, rfl, _, _, rfl, rfl, (by show (0 : Int) < 2147483629; decide), _, rfl, _, _, rfl, rfl, .inl ⟨by decide, by decide⟩, _, rfl, _, _, rfl, rfl, .inr ⟨by lia, by lia⟩, _, _, rfl, rfl, _, _, rfl, rfl, _, _, rfl, rfl, .inr ⟨by decide, by decide⟩, _, _, rfl, rfl, (by show (0 : Int) < 2147483647; decide), ?_⟩
  have g0 := Int.emod_nonneg ((x % 2147483629 + 7919 * k * k + 11) * 48271) (show (2147483647 : Int) ≠ 0 by decide)
  have g1 := Int.emod_lt_of_pos ((x % 2147483629 + 7919 * k * k + 11) * 48271) (show (0 : Int) < 2147483647 by decide)
  refine ⟨_, rfl, _, rfl, _, _, rfl, rfl, ⟨by decide, by decide, by decide⟩, _, _, rfl, rfl, .inr ⟨_, rfl, _, _, rfl, rfl, .inr ?_, ?_⟩⟩
  · split <;> exact ⟨by decide, by decide⟩
  refine ⟨48, 4000, rfl, rfl, by decide, by decide, fun z hz => ?_⟩
  obtain ⟨d1, d2, d3⟩ := long_ok hz
  have zl : z.length = 4000 := by
    have := congrArg List.length hz
    rw [Array.length_toList, List.length_replicate] at this
    exact this
  refine ⟨_, _, rfl, rfl, by rw [zl]; decide, _, rfl, d1, by lia, by lia, _, _, rfl, rfl, by lia, _, rfl, (by show 2 ≤ sizeLine; decide), fun l hl => ?_⟩
  exact q l _ hl (same_new hl _) ⟨_, _, upd_same, Int.emod_nonneg _ (by lia), g0, by lia⟩
end
end K33
end
section
set_option maxHeartbeats 4000001
namespace K33
open PySem L2 Own Bn
abbrev sEnds : Stmt := top 1
abbrev sFlowed : Stmt := top 2
section
variable {P : Program} {w : World} {K : PySem.W.Frag} {mg : Str → Option Value} {base : Heap}
theorem scF : FnScope ["net", "counts", "on_lanes", "turns", "one", "other", "come"] ["net", "counts"] (defScope sFlowed) := ⟨rfl, rfl, rfl, by decide +kernel, rfl, by decide +kernel, by decide +kernel⟩
theorem ok_flowed {f : Addr} {fd : FuncData} (F : Fun K "flowed" "flowed" sFlowed f fd) (G : Mgs mg) : FnOk P w K mg base CX0 1 f fd ["net", "counts"] spFlowed := by
  refine F.ok scF (fun vs H Q E h => ?_) (fun cdv A outer s H vs Q E hr h => ?_)
  · obtain ⟨r, fr, er, ps, N, c, cs, rfl, _⟩ := h
    rfl
  obtain ⟨r, fr, er, ps, N, c, cs, rfl, ok, na, hc, cl, k⟩ := h
  refine ⟨_, (@pss_cons _ _ _ _ _ (@ps_set _ _ 2 _ _ _ _ scF.nd rfl (Or.inl rfl) (@pe_callTy _ _ _ _ _ _ _ _ _ call_list_of (by rfl) G.list (by rfl) (@pa_cons _ _ _ _ _ (@pv _ 1 _ _ (by rfl) (by first | exact Or.inl rfl | exact Or.inr (Or.inl rfl) | exact Or.inr (Or.inr rfl)) (by decide) (by decide)) pa_nil (by rfl)) (by decide) (by decide) (by rfl) (by rfl)) (by rfl) (by first | exact .inl rfl | exact .inr rfl | assumption)) (@pss_cons _ _ _ _ _ (@ps_set _ _ 3 _ _ _ _ scF.nd rfl (Or.inl rfl) (@pe_lst _ _ _ _ pa_nil) (by rfl) (by first | exact .inl rfl | exact .inr rfl | assumption)) (@pss_cons _ _ _ _ _ (@ps_for _ _ _ _ _ _ _ _ PassesOwn.never rfl (@pi_tup _ _ _ _ (@pe_ix _ _ _ _ _ _ _ ix_tup (@pv _ 0 _ _ (by rfl) (by first | exact Or.inl rfl | exact Or.inr (Or.inl rfl) | exact Or.inr (Or.inr rfl)) (by decide) (by decide)) pe_int (fun _ _ => rfl))) (@pg_tup _ _ _ _ _ _ rfl (@pgs_cons _ _ _ _ _ (@pg_name _ _ 4 _ scF.nd rfl (Or.inl rfl) (by first | exact .inl rfl | exact .inr rfl | assumption)) (@pgs_cons _ _ _ _ _ (@pg_name _ _ 5 _ scF.nd rfl (Or.inl rfl) (by first | exact .inl rfl | exact .inr rfl | assumption)) pgs_nil (by rfl)) (by rfl)) (by rfl) (by rfl)) (@pss_cons _ _ _ _ _ (@ps_set _ _ 6 _ _ _ _ scF.nd rfl (Or.inl rfl) (@pe_op _ _ _ _ _ _ _ _ op_add (@pe_ix _ _ _ _ _ _ _ ix_list (@pv _ 2 _ _ (by rfl) (by first | exact Or.inl rfl | exact Or.inr (Or.inl rfl) | exact Or.inr (Or.inr rfl)) (by decide) (by decide)) (@pv _ 4 _ _ (by rfl) (by first | exact Or.inl rfl | exact Or.inr (Or.inl rfl) | exact Or.inr (Or.inr rfl)) (by decide) (by decide)) (fun _ _ => rfl)) (@pe_ix _ _ _ _ _ _ _ ix_list (@pv _ 2 _ _ (by rfl) (by first | exact Or.inl rfl | exact Or.inr (Or.inl rfl) | exact Or.inr (Or.inr rfl)) (by decide) (by decide)) (@pv _ 5 _ _ (by rfl) (by first | exact Or.inl rfl | exact Or.inr (Or.inl rfl) | exact Or.inr (Or.inr rfl)) (by decide) (by decide)) (fun _ _ => rfl))) (by rfl) (by first | exact .inl rfl | exact .inr rfl | assumption)) (@pss_cons _ _ _ _ _ (@ps_asg _ _ _ _ _ _ (@pe_op _ _ _ _ _ _ _ _ op_fdiv (@pe_op _ _ _ _ _ _ _ _ op_add (@pv _ 6 _ _ (by rfl) (by first | exact Or.inl rfl | exact Or.inr (Or.inl rfl) | exact Or.inr (Or.inr rfl)) (by decide) (by decide)) pe_int) pe_int) (@pg_sub _ _ _ _ _ _ _ (@pv _ 2 _ _ (by rfl) (by first | exact Or.inl rfl | exact Or.inr (Or.inl rfl) | exact Or.inr (Or.inr rfl)) (by decide) (by decide)) (@pv _ 4 _ _ (by rfl) (by first | exact Or.inl rfl | exact Or.inr (Or.inl rfl) | exact Or.inr (Or.inr rfl)) (by decide) (by decide)) set_list (by intro _; rfl)) (by rfl) (by rfl) (by rfl)) (@pss_cons _ _ _ _ _ (@ps_asg _ _ _ _ _ _ (@pe_op _ _ _ _ _ _ _ _ op_fdiv (@pv _ 6 _ _ (by rfl) (by first | exact Or.inl rfl | exact Or.inr (Or.inl rfl) | exact Or.inr (Or.inr rfl)) (by decide) (by decide)) pe_int) (@pg_sub _ _ _ _ _ _ _ (@pv _ 2 _ _ (by rfl) (by first | exact Or.inl rfl | exact Or.inr (Or.inl rfl) | exact Or.inr (Or.inr rfl)) (by decide) (by decide)) (@pv _ 5 _ _ (by rfl) (by first | exact Or.inl rfl | exact Or.inr (Or.inl rfl) | exact Or.inr (Or.inr rfl)) (by decide) (by decide)) set_list (by intro _; rfl)) (by rfl) (by rfl) (by rfl)) (@pss_one _ _ _ (@ps_expr _ _ _ _ (@pe_bm _ _ _ _ _ _ _ _ _ _ _ _ PySem.F.plainAttrs_list PySem.F.slot_list_append PySem.F.type_list_append mt_append (@pv _ 3 _ _ (by rfl) (by first | exact Or.inl rfl | exact Or.inr (Or.inl rfl) | exact Or.inr (Or.inr rfl)) (by decide) (by decide)) (@pa_cons _ _ _ _ _ (@pe_op _ _ _ _ _ _ _ _ op_mod (@pv _ 6 _ _ (by rfl) (by first | exact Or.inl rfl | exact Or.inr (Or.inl rfl) | exact Or.inr (Or.inr rfl)) (by decide) (by decide)) pe_int) pa_nil (by rfl)) (by rfl) (by rfl) (by rfl) (by rfl) (by rfl)) (by rfl)))))) (by intro _; rfl)) (@pss_one _ _ _ (@ps_ret _ _ _ _ (@pe_tup _ _ _ _ _ (@pa_cons _ _ _ _ _ (@pv _ 2 _ _ (by rfl) (by first | exact Or.inl rfl | exact Or.inr (Or.inl rfl) | exact Or.inr (Or.inr rfl)) (by decide) (by decide)) (@pa_cons _ _ _ _ _ (@pv _ 3 _ _ (by rfl) (by first | exact Or.inl rfl | exact Or.inr (Or.inl rfl) | exact Or.inr (Or.inr rfl)) (by decide) (by decide)) pa_nil (by rfl)) (by rfl)))))))), ?_⟩
  refine ⟨_, rfl, c, _, rfl, .inr (SqT.of hc), fun lo hlo => ?_⟩
  have s1 := same_new hlo (.lst (cs.map V.int))
  refine ⟨(by show 0 ≤ sizeLine; decide), fun lt hlt => ?_⟩
  have s2 := s1.trans (same_new hlt (.lst []))
  have ne : lo ≠ lt := ne_of_none upd_same hlt
  refine ⟨_, rfl, r, _, _, _, rfl, rfl, SqT.of (s2 _ _ na.net), rfl, fr, rfl, ⟨_, SqT.of (s2 _ _ na.forks)⟩, ?_⟩
  refine for_tup (K := K) (a := fr) (xs := ps) (fun i σ H2 => (∃ v4 v5 v6, σ = [some (.ref r), some (.ref c), some (.ref lo), some (.ref lt), v4, v5, v6]) ∧ Same H H2 ∧ H2 lo = some (.lst ((flow (N.forks.take i) cs).1.map V.int)) ∧ H2 lt = some (.lst ((flow (N.forks.take i) cs).2.map V.int)))
    ⟨⟨_, _, _, rfl⟩, s2, by rw [upd_ne ne]; exact upd_same, upd_same⟩ (fun i σ H2 _ q => SqT.of (q.2.1 _ _ na.forks)) ?_ ?_
  · rintro i p σ H2 hp ⟨⟨v4, v5, v6, rfl⟩, s3, h1, h2⟩
    obtain ⟨a, g, rfl, eg, ha⟩ := (na.prs.tups (Tups.of s3)).get hp
    have okg := ok.fk g (List.mem_of_getElem? eg)
    have fl : (flow (N.forks.take i) cs).1.length = N.lanes := by rw [flow_len, cl]
    have ft : (flow (N.forks.take i) cs).2.length ≤ 128 := by rw [flow_turns, List.length_take]; have := ok.fm; lia
    have fx := flow_take eg cs
    generalize flow (N.forks.take i) cs = st at *
    refine ⟨a, _, rfl, SqT.of ha, rfl, _, _, rfl, _, _, rfl, rfl, ?_⟩
    refine ⟨_, rfl, _, rfl, lo, _, _, _, rfl, rfl, SqL.of h1, at_int (by lia), _, rfl, _, rfl, lo, _, _, _, rfl, rfl, SqL.of h1, at_int (by lia), _, _, rfl, rfl, ?_⟩
    refine ⟨_, rfl, _, _, rfl, rfl, _, _, rfl, rfl, ⟨by decide, by decide⟩, _, rfl, _, rfl, lo, _, _, g.1, rfl, rfl, h1, ix_at (by rw [List.length_map]; lia), ?_⟩
    refine ⟨_, rfl, _, _, rfl, rfl, ⟨by decide, by decide⟩, _, rfl, _, rfl, lo, _, _, g.2, rfl, rfl, upd_same, ix_at (by rw [List.length_set, List.length_map]; lia), ?_⟩
    have h3 : upd (upd H2 lo (.lst ((st.1.map V.int).set g.1 (.int ((st.1.getD g.1 0 + st.1.getD g.2 0 + 1) / 2))))) lo (.lst (((st.1.map V.int).set g.1 (.int ((st.1.getD g.1 0 + st.1.getD g.2 0 + 1) / 2))).set g.2 (.int ((st.1.getD g.1 0 + st.1.getD g.2 0) / 2)))) lt = some (.lst (st.2.map V.int)) := by
      rw [upd_ne ne.symm, upd_ne ne.symm]; exact h2
    refine ⟨_, rfl, .inl ⟨rfl, _, SqL.of h3⟩, _, rfl, _, _, rfl, rfl, (by show (0 : Int) < 2; decide), lt, _, _, rfl, rfl, h3, by rw [List.length_map]; exact Nat.lt_of_le_of_lt ft (by decide), ⟨_, _, _, rfl⟩, fun b o e => ?_, ?_, ?_⟩
    · rw [upd_ne (ne_of_none (s1 b o e) hlt), upd_ne (ne_of_none e hlo), upd_ne (ne_of_none e hlo)]; exact s3 b o e
    · rw [upd_ne ne, upd_same, fx]
      unfold stepF
      rw [set_ints, set_ints]
    · rw [upd_same, fx]
      unfold stepF
      rw [List.map_append]; rfl
  · rintro σ H2 ⟨⟨v4, v5, v6, rfl⟩, s3, h1, h2⟩
    have e : N.forks.take ps.length = N.forks := by rw [na.prs.len]; exact List.take_length
    rw [e] at h1 h2
    exact ⟨_, rfl, _, rfl, (by show 2 ≤ sizeLine; decide), fun p hp => k p lo lt _ (s3.trans (same_new hp _)) upd_same (same_new hp _ _ _ h1) (same_new hp _ _ _ h2)⟩
theorem scE : FnScope ["net", "counts", "on_lanes", "turns"] ["net", "counts"] (defScope sEnds) := ⟨rfl, rfl, rfl, by decide +kernel, rfl, by decide +kernel, by decide +kernel⟩
theorem ok_ends {f fF : Addr} {fd dF : FuncData} (F : Fun K "ends_of" "ends_of" sEnds f fd) (G : Mgs mg) (UF : Use P w K mg base "flowed" ["net", "counts"] 1 spFlowed fF dF) : FnOk P w K mg base CX0 2 f fd ["net", "counts"] spEnds := by
  refine F.ok scE (fun vs H Q E h => ?_) (fun cdv A outer s H vs Q E hr h => ?_)
  · obtain ⟨r, fr, er, ps, N, c, cs, rfl, _⟩ := h
    rfl
  obtain ⟨r, fr, er, ps, N, c, cs, rfl, ok, na, hc, cl, k⟩ := h
  refine ⟨_, (@pss_cons _ _ _ _ _ (@ps_asg _ _ _ _ _ _ (@pe_call _ _ _ _ _ _ _ _ _ _ _ _ _ _ _ _ UF.ok hr (by rfl) UF.m UF.kp UF.b .nil pass0 (@pa_cons _ _ _ _ _ (@pv _ 0 _ _ (by rfl) (by first | exact Or.inl rfl | exact Or.inr (Or.inl rfl) | exact Or.inr (Or.inr rfl)) (by decide) (by decide)) (@pa_cons _ _ _ _ _ (@pv _ 1 _ _ (by rfl) (by first | exact Or.inl rfl | exact Or.inr (Or.inl rfl) | exact Or.inr (Or.inr rfl)) (by decide) (by decide)) pa_nil (by rfl)) (by rfl)) (by decide) (by rfl) (by rfl)) (@pg_tup _ _ _ _ _ _ rfl (@pgs_cons _ _ _ _ _ (@pg_name _ _ 2 _ scE.nd rfl (Or.inr rfl) (by first | exact .inl rfl | exact .inr rfl | assumption)) (@pgs_cons _ _ _ _ _ (@pg_name _ _ 3 _ scE.nd rfl (Or.inl rfl) (by first | exact .inl rfl | exact .inr rfl | assumption)) pgs_nil (by rfl)) (by rfl)) (by rfl) (by rfl)) (by rfl) (by rfl) (by rfl)) (@pss_one _ _ _ (@ps_ret _ _ _ _ (@pe_callTy _ _ _ _ _ _ _ _ _ call_tuple_of (by rfl) G.tuple (by rfl) (@pa_cons _ _ _ _ _ (@pe_lc _ _ _ _ none _ _ _ _ _ _ ["lane", "on_lanes"] [none, some 2] rfl (@pi_tup _ _ _ _ (@pe_ix _ _ _ _ _ _ _ ix_tup (@pv _ 0 _ _ (by rfl) (by first | exact Or.inl rfl | exact Or.inr (Or.inl rfl) | exact Or.inr (Or.inr rfl)) (by decide) (by decide)) pe_int (fun _ _ => rfl))) (CapOk.of (by kernel_rfl)) (fun _ _ _ _ _ => (@pg_name _ _ 0 _ (show (["lane", "on_lanes"] : List Str).Nodup from by decide +kernel) rfl (Or.inl rfl) (Or.inr rfl))) (fun _ _ _ _ _ => pt_none) (fun _ _ _ _ _ => (@pe_ix _ _ _ _ _ _ (rIxL K) ix_list (@pv _ 1 _ _ (by rfl) (by first | exact Or.inl rfl | exact Or.inr (Or.inl rfl) | exact Or.inr (Or.inr rfl)) (by decide) (by decide)) (@pv _ 0 _ _ (by rfl) (by first | exact Or.inl rfl | exact Or.inr (Or.inl rfl) | exact Or.inr (Or.inr rfl)) (by decide) (by decide)) (fun _ _ => rfl))) (by intro _; rfl)) pa_nil (by rfl)) (by decide) (by decide) (by rfl) (by rfl))))), ?_⟩
  refine ⟨_, rfl, _, rfl, r, fr, er, ps, N, c, cs, rfl, ok, na, hc, cl, fun p lo lt H1 s1 hp ho ht => ?_⟩
  refine ⟨p, _, rfl, SqT.of hp, rfl, _, _, rfl, _, _, rfl, rfl, ?_⟩
  have na1 := na.tups (Tups.of s1)
  refine ⟨_, rfl, r, _, _, _, rfl, rfl, SqT.of na1.net, rfl, er, rfl, ⟨_, SqT.of na1.ends⟩, fun l hl => ?_⟩
  have lol : lo ≠ l := ne_of_none ho hl
  refine lc_tup (K := K) (a := er) (xs := nums N.ends) (fun i acc σ H2 => (∃ v, σ = [v, some (.ref lo)]) ∧ Same H1 H2 ∧ H2 l = some (.lst acc) ∧ acc = ((endsM N cs).take i).map V.int) ⟨⟨_, rfl⟩, same_new hl _, upd_same, rfl⟩ (fun i acc σ H2 q => ⟨q.2.2.1, SqT.of (q.2.1 _ _ na1.ends)⟩) ?_ ?_
  · rintro i x acc σ H2 hx ⟨⟨v, rfl⟩, s2, h2, rfl⟩
    have il : i < N.ends.length := by have := (List.getElem?_eq_some_iff.mp hx).1; rwa [nums_len] at this
    have ex : x = .int N.ends[i] := by
      unfold nums at hx
      rw [List.getElem?_map, List.getElem?_eq_getElem il] at hx; exact (Option.some.inj hx).symm
    subst ex
    have lt' := ends_lt ok (List.getElem_mem il)
    refine ⟨_, rfl, _, rfl, lo, _, _, _, rfl, rfl, SqL.of (s2 _ _ ho), at_int (by rw [flow_len, cl]; exact lt'), h2, ?_, nx (by rw [nums_len]; exact il) ⟨⟨_, rfl⟩, fun b o e => ?_, upd_same, ?_⟩⟩
    · rw [List.length_map, List.length_take]; exact Nat.lt_of_le_of_lt (Nat.min_le_left _ _) (Nat.lt_of_lt_of_le (show i < 1000 by have := ends_len ok; have := ok.l16; lia) (by decide))
    · rw [upd_ne (ne_of_none e hl)]; exact s2 b o e
    · have el : i < (endsM N cs).length := by unfold endsM; rw [List.length_map]; exact il
      have eg : (endsM N cs)[i] = (flow N.forks cs).1.getD N.ends[i] 0 := by simp [endsM]
      rw [List.take_succ_eq_append_getElem el, List.map_append, eg]; rfl
  · rintro acc σ H2 ⟨⟨v, rfl⟩, s2, h2, rfl⟩
    refine ⟨l, _, rfl, .inl ⟨SqL.of h2, fun q hq => k q _ ((s1.trans s2).trans (same_new hq _)) ?_⟩⟩
    rw [upd_same, nums_len, List.take_of_length_le (by unfold endsM; rw [List.length_map]; exact Nat.le_refl _)]
end
end K33
end
section
set_option maxHeartbeats 4000001
namespace Bn
open PySem L2 Own
end Bn
end
section
set_option maxHeartbeats 4000001
namespace Bn
open PySem L2 Own
def big (x y : Int) : Int := if y > x then y else x
theorem big_l (x y : Int) : x ≤ big x y := by unfold big; split <;> lia
theorem big_r (x y : Int) : y ≤ big x y := by unfold big; split <;> lia
def layStep (st : List Int × List Int) (f : Nat × Nat) : List Int × List Int :=
  ((st.1.set f.1 (1 + big (st.1.getD f.1 0) (st.1.getD f.2 0))).set f.2 (1 + big (st.1.getD f.1 0) (st.1.getD f.2 0)), st.2 ++ [1 + big (st.1.getD f.1 0) (st.1.getD f.2 0)])
def lay (n : Nat) (fs : List (Nat × Nat)) : List Int × List Int := fs.foldl layStep (List.replicate n 0, [])
theorem lay_take {n : Nat} {fs : List (Nat × Nat)} {i : Nat} {f : Nat × Nat} (h : fs[i]? = some f) : lay n (fs.take (i + 1)) = layStep (lay n (fs.take i)) f := by
  have w := List.getElem?_eq_some_iff.mp h
  rw [List.take_succ_eq_append_getElem w.1, w.2]
  unfold lay
  rw [List.foldl_append]; rfl
theorem lay_lens {n : Nat} : ∀ (i : Nat) (fs : List (Nat × Nat)), i ≤ fs.length → (lay n (fs.take i)).1.length = n ∧ (lay n (fs.take i)).2.length = i
  | 0, fs, _ => by simp [lay]
  | i + 1, fs, h => by
    have ih := lay_lens (n := n) i fs (by lia)
    rw [lay_take (List.getElem?_eq_getElem (by lia))]
    unfold layStep
    simp [ih.1, ih.2]
def Tops (fs : List (Nat × Nat)) (fo : List Int) (i lane : Nat) (x : Int) : Prop :=
  0 ≤ x ∧ (∀ j f, j < i → fs[j]? = some f → f.1 = lane ∨ f.2 = lane → fo.getD j 0 ≤ x) ∧ (x = 0 ∨ ∃ j f, j < i ∧ fs[j]? = some f ∧ (f.1 = lane ∨ f.2 = lane) ∧ fo.getD j 0 = x)
theorem getD_app {fo : List Int} {m : Int} {j : Nat} (h : j < fo.length) : (fo ++ [m]).getD j 0 = fo.getD j 0 := by
  rw [List.getD_eq_getElem?_getD, List.getElem?_append_left h, ← List.getD_eq_getElem?_getD]
theorem getD_end {fo : List Int} {m : Int} {i : Nat} (h : fo.length = i) : (fo ++ [m]).getD i 0 = m := by
  subst h
  rw [List.getD_eq_getElem?_getD, List.getElem?_concat_length]; rfl
theorem lay_tops {n : Nat} {fs : List (Nat × Nat)} (ok : ∀ f ∈ fs, f.1 < n ∧ f.2 < n) : ∀ i, i ≤ fs.length → ∀ lane, lane < n → Tops fs (lay n (fs.take i)).2 i lane ((lay n (fs.take i)).1.getD lane 0)
  | 0, _, lane, hl => by
    refine ⟨?_, fun j f hj => absurd hj (Nat.not_lt_zero _), .inl ?_⟩ <;> simp [lay, hl]
  | i + 1, hi, lane, hl => by
    have il : i < fs.length := by lia
    have ih := lay_tops ok i (by lia)
    have ln := lay_lens (n := n) i fs (by lia)
    have ef := List.getElem?_eq_getElem il
    have okf := ok fs[i] (List.getElem_mem il)
    rw [lay_take ef]
    generalize fs[i] = f at *
    generalize lay n (fs.take i) = st at *
    obtain ⟨re, fo⟩ := st
    simp only at ih ln
    show Tops fs (fo ++ [1 + big (re.getD f.1 0) (re.getD f.2 0)]) (i + 1) lane (((re.set f.1 _).set f.2 _).getD lane 0)
    have ia := ih f.1 okf.1
    have ib := ih f.2 okf.2
    have gl := big_l (re.getD f.1 0) (re.getD f.2 0)
    have gr := big_r (re.getD f.1 0) (re.getD f.2 0)
    generalize hm : 1 + big (re.getD f.1 0) (re.getD f.2 0) = m at *
    rw [set_getD (by simp [ln.1, hl]), set_getD (by rw [ln.1]; exact hl)]
    have on : (f.1 = lane ∨ f.2 = lane) → re.getD lane 0 ≤ m → Tops fs (fo ++ [m]) (i + 1) lane m := fun hon hle => by
      refine ⟨by have := ia.1; lia, fun j g hj hg hg2 => ?_, .inr ⟨i, f, Nat.lt_succ_self _, ef, hon, getD_end ln.2⟩⟩
      by_cases e : j = i
      · subst e; rw [getD_end ln.2]; exact Int.le_refl _
      · rw [getD_app (by lia)]
        have := (ih lane hl).2.1 j g (by lia) hg hg2
        lia
    by_cases e2 : f.2 = lane
    · rw [if_pos e2]; exact on (.inr e2) (by subst e2; lia)
    · rw [if_neg e2]
      by_cases e1 : f.1 = lane
      · rw [if_pos e1]; exact on (.inl e1) (by subst e1; lia)
      · rw [if_neg e1]
        have il2 := ih lane hl
        refine ⟨il2.1, fun j g hj hg hg2 => ?_, ?_⟩
        · by_cases e : j = i
          · subst e; rw [ef] at hg; obtain rfl := Option.some.inj hg
            rcases hg2 with z | z
            · exact absurd z e1
            · exact absurd z e2
          · rw [getD_app (by lia)]; exact il2.2.1 j g (by lia) hg hg2
        · rcases il2.2.2 with z | ⟨j, g, hj, hg, hg2, e⟩
          · exact .inl z
          · exact .inr ⟨j, g, by lia, hg, hg2, by rw [getD_app (by lia)]; exact e⟩
def meets (g f : Nat × Nat) : Bool := decide (g.1 = f.1 ∨ g.1 = f.2) || decide (g.2 = f.1 ∨ g.2 = f.2)
def ahead (fs : List (Nat × Nat)) (fo : List Int) (f : Nat × Nat) (i : Nat) : List Int := ((List.range i).filter fun j => meets (fs.getD j (0, 0)) f).map fun j => fo.getD j 0
def layers (N : Nt) : List Int := (lay N.lanes N.forks).2
theorem layers_len (N : Nt) : (layers N).length = N.forks.length := by
  have := (lay_lens (n := N.lanes) N.forks.length N.forks (Nat.le_refl _)).2
  rwa [List.take_length] at this
theorem lay_pos {n : Nat} {fs : List (Nat × Nat)} (ok : ∀ f ∈ fs, f.1 < n ∧ f.2 < n) : ∀ i, i ≤ fs.length → ∀ z ∈ (lay n (fs.take i)).2, 0 ≤ z
  | 0, _, z, h => by simp [lay] at h
  | i + 1, hi, z, h => by
    have il : i < fs.length := by lia
    have ih := lay_pos ok i (by lia) z
    have tp := lay_tops ok i (by lia) fs[i].1 (ok _ (List.getElem_mem il)).1
    rw [lay_take (List.getElem?_eq_getElem il)] at h
    rcases List.mem_append.mp h with w | w
    · exact ih w
    · rw [List.mem_singleton.mp w]
      have := big_l ((lay n (fs.take i)).1.getD fs[i].1 0) ((lay n (fs.take i)).1.getD fs[i].2 0)
      have := tp.1
      lia
end Bn
end
section
set_option maxHeartbeats 4000001
namespace K33
open PySem L2 Own Bn
abbrev sLayers : Stmt := top 4
theorem noughts (n : Nat) : (List.replicate n [V.int 0]).flatten = (List.replicate n (0 : Int)).map V.int := by
  induction n with
  | zero => rfl
  | succ n ih => rw [List.replicate_succ, List.flatten_cons, ih, List.replicate_succ]; rfl
def spLayers : Sp := fun vs H Q _ => ∃ r fr er ps N, vs = [.ref r] ∧ Nt.Ok N ∧ NetAt H r fr er ps N ∧ ∀ p H', Same H H' → H' p = some (.tup ((layers N).map V.int)) → Q (.ref p) H'
section
variable {P : Program} {w : World} {K : PySem.W.Frag} {mg : Str → Option Value} {base : Heap}
theorem scLy : FnScope ["net", "lanes", "forks", "ends", "reached", "found", "one", "other", "layer"] ["net"] (defScope sLayers) := ⟨rfl, rfl, rfl, by decide +kernel, rfl, by decide +kernel, by decide +kernel⟩
theorem ok_layers {f : Addr} {fd : FuncData} (F : Fun K "layers" "layers" sLayers f fd) (G : Mgs mg) : FnOk P w K mg base CX0 1 f fd ["net"] spLayers := by
  refine F.ok scLy (fun vs H Q E h => ?_) (fun cdv A outer s H vs Q E hr h => ?_)
  · obtain ⟨r, fr, er, ps, N, rfl, _⟩ := h
    rfl
  obtain ⟨r, fr, er, ps, N, rfl, ok, na, k⟩ := h
  refine ⟨_, (@pss_cons _ _ _ _ _ (@ps_asg _ _ _ _ _ _ (@pv _ 0 _ _ (by rfl) (by first | exact Or.inl rfl | exact Or.inr (Or.inl rfl) | exact Or.inr (Or.inr rfl)) (by decide) (by decide)) (@pg_tup _ _ _ _ _ _ rfl (@pgs_cons _ _ _ _ _ (@pg_name _ _ 1 _ scLy.nd rfl (Or.inl rfl) (by first | exact .inl rfl | exact .inr rfl | assumption)) (@pgs_cons _ _ _ _ _ (@pg_name _ _ 2 _ scLy.nd rfl (Or.inl rfl) (by first | exact .inl rfl | exact .inr rfl | assumption)) (@pgs_cons _ _ _ _ _ (@pg_name _ _ 3 _ scLy.nd rfl (Or.inl rfl) (by first | exact .inl rfl | exact .inr rfl | assumption)) pgs_nil (by rfl)) (by rfl)) (by rfl)) (by rfl) (by rfl)) (by rfl) (by rfl) (by rfl)) (@pss_cons _ _ _ _ _ (@ps_set _ _ 4 _ _ _ _ scLy.nd rfl (Or.inl rfl) (@pe_op _ _ _ _ _ _ _ _ op_rep (@pe_lst _ _ _ _ (@pa_cons _ _ _ _ _ pe_int pa_nil (by rfl))) (@pv _ 1 _ _ (by rfl) (by first | exact Or.inl rfl | exact Or.inr (Or.inl rfl) | exact Or.inr (Or.inr rfl)) (by decide) (by decide))) (by rfl) (by first | exact .inl rfl | exact .inr rfl | assumption)) (@pss_cons _ _ _ _ _ (@ps_set _ _ 5 _ _ _ _ scLy.nd rfl (Or.inl rfl) (@pe_lst _ _ _ _ pa_nil) (by rfl) (by first | exact .inl rfl | exact .inr rfl | assumption)) (@pss_cons _ _ _ _ _ (@ps_for _ _ _ _ _ _ _ _ PassesOwn.never rfl (@pi_tup _ _ _ _ (@pv _ 2 _ _ (by rfl) (by first | exact Or.inl rfl | exact Or.inr (Or.inl rfl) | exact Or.inr (Or.inr rfl)) (by decide) (by decide))) (@pg_tup _ _ _ _ _ _ rfl (@pgs_cons _ _ _ _ _ (@pg_name _ _ 6 _ scLy.nd rfl (Or.inl rfl) (by first | exact .inl rfl | exact .inr rfl | assumption)) (@pgs_cons _ _ _ _ _ (@pg_name _ _ 7 _ scLy.nd rfl (Or.inl rfl) (by first | exact .inl rfl | exact .inr rfl | assumption)) pgs_nil (by rfl)) (by rfl)) (by rfl) (by rfl)) (@pss_cons _ _ _ _ _ (@ps_set _ _ 8 _ _ _ _ scLy.nd rfl (Or.inl rfl) (@pe_op _ _ _ _ _ _ _ _ op_add pe_int (@pe_callB _ _ _ _ _ _ _ _ _ (call_max2 rfl) (by rfl) G.max (by rfl) (@pa_cons _ _ _ _ _ (@pe_ix _ _ _ _ _ _ _ ix_list (@pv _ 4 _ _ (by rfl) (by first | exact Or.inl rfl | exact Or.inr (Or.inl rfl) | exact Or.inr (Or.inr rfl)) (by decide) (by decide)) (@pv _ 6 _ _ (by rfl) (by first | exact Or.inl rfl | exact Or.inr (Or.inl rfl) | exact Or.inr (Or.inr rfl)) (by decide) (by decide)) (fun _ _ => rfl)) (@pa_cons _ _ _ _ _ (@pe_ix _ _ _ _ _ _ _ ix_list (@pv _ 4 _ _ (by rfl) (by first | exact Or.inl rfl | exact Or.inr (Or.inl rfl) | exact Or.inr (Or.inr rfl)) (by decide) (by decide)) (@pv _ 7 _ _ (by rfl) (by first | exact Or.inl rfl | exact Or.inr (Or.inl rfl) | exact Or.inr (Or.inr rfl)) (by decide) (by decide)) (fun _ _ => rfl)) pa_nil (by rfl)) (by rfl)) (by decide) (by decide) (by rfl) (by rfl))) (by rfl) (by first | exact .inl rfl | exact .inr rfl | assumption)) (@pss_cons _ _ _ _ _ (@ps_asg _ _ _ _ _ _ (@pv _ 8 _ _ (by rfl) (by first | exact Or.inl rfl | exact Or.inr (Or.inl rfl) | exact Or.inr (Or.inr rfl)) (by decide) (by decide)) (@pg_sub _ _ _ _ _ _ _ (@pv _ 4 _ _ (by rfl) (by first | exact Or.inl rfl | exact Or.inr (Or.inl rfl) | exact Or.inr (Or.inr rfl)) (by decide) (by decide)) (@pv _ 6 _ _ (by rfl) (by first | exact Or.inl rfl | exact Or.inr (Or.inl rfl) | exact Or.inr (Or.inr rfl)) (by decide) (by decide)) set_list (by intro _; rfl)) (by rfl) (by rfl) (by rfl)) (@pss_cons _ _ _ _ _ (@ps_asg _ _ _ _ _ _ (@pv _ 8 _ _ (by rfl) (by first | exact Or.inl rfl | exact Or.inr (Or.inl rfl) | exact Or.inr (Or.inr rfl)) (by decide) (by decide)) (@pg_sub _ _ _ _ _ _ _ (@pv _ 4 _ _ (by rfl) (by first | exact Or.inl rfl | exact Or.inr (Or.inl rfl) | exact Or.inr (Or.inr rfl)) (by decide) (by decide)) (@pv _ 7 _ _ (by rfl) (by first | exact Or.inl rfl | exact Or.inr (Or.inl rfl) | exact Or.inr (Or.inr rfl)) (by decide) (by decide)) set_list (by intro _; rfl)) (by rfl) (by rfl) (by rfl)) (@pss_one _ _ _ (@ps_expr _ _ _ _ (@pe_bm _ _ _ _ _ _ _ _ _ _ _ _ PySem.F.plainAttrs_list PySem.F.slot_list_append PySem.F.type_list_append mt_append (@pv _ 5 _ _ (by rfl) (by first | exact Or.inl rfl | exact Or.inr (Or.inl rfl) | exact Or.inr (Or.inr rfl)) (by decide) (by decide)) (@pa_cons _ _ _ _ _ (@pv _ 8 _ _ (by rfl) (by first | exact Or.inl rfl | exact Or.inr (Or.inl rfl) | exact Or.inr (Or.inr rfl)) (by decide) (by decide)) pa_nil (by rfl)) (by rfl) (by rfl) (by rfl) (by rfl) (by rfl)) (by rfl)))))) (by intro _; rfl)) (@pss_one _ _ _ (@ps_ret _ _ _ _ (@pe_callTy _ _ _ _ _ _ _ _ _ call_tuple_of (by rfl) G.tuple (by rfl) (@pa_cons _ _ _ _ _ (@pv _ 5 _ _ (by rfl) (by first | exact Or.inl rfl | exact Or.inr (Or.inl rfl) | exact Or.inr (Or.inr rfl)) (by decide) (by decide)) pa_nil (by rfl)) (by decide) (by decide) (by rfl) (by rfl)))))))), ?_⟩
  have l1 := ok.l1
  have l16 := ok.l16
  have fm := ok.fm
  have pl := na.prs.len
  have tn : ((N.lanes : Nat) : Int).toNat = N.lanes := by lia
  refine ⟨_, rfl, r, _, rfl, SqT.of na.net, rfl, _, _, rfl, _, _, rfl, _, _, rfl, rfl, ?_⟩
  refine ⟨(by show 1 ≤ sizeLine; decide), fun p1 hp1 => ?_⟩
  have s1 := same_new hp1 (.lst [.int 0])
  refine ⟨_, rfl, p1, N.lanes, _, rfl, rfl, upd_same, by lia, by lia, by show 1 * _ ≤ sizeLine; rw [sizeLine_eq]; lia, fun lr hlr => ?_⟩
  have s2 := s1.trans (same_new hlr (.lst (List.replicate ((N.lanes : Int)).toNat [V.int 0]).flatten))
  have hlr0 : H lr = none := by
    cases z : H lr with
    | none => rfl
    | some o => exact absurd (s1 _ _ z) (by rw [hlr]; exact fun w => nomatch w)
  refine ⟨(by show 0 ≤ sizeLine; decide), fun lf hlf => ?_⟩
  have s3 := s2.trans (same_new hlf (.lst []))
  have hlf0 : H lf = none := by
    cases z : H lf with
    | none => rfl
    | some o => exact absurd (s2 _ _ z) (by rw [hlf]; exact fun w => nomatch w)
  have nrf : lr ≠ lf := ne_of_none upd_same hlf
  refine ⟨_, rfl, fr, rfl, ⟨_, SqT.of (s3 _ _ na.forks)⟩, ?_⟩
  refine for_tup (K := K) (a := fr) (xs := ps) (fun i σ H2 => (∃ v6 v7 v8, σ = [some (.ref r), some (.int N.lanes), some (.ref fr), some (.ref er), some (.ref lr), some (.ref lf), v6, v7, v8]) ∧ Same H H2 ∧ H2 lr = some (.lst ((lay N.lanes (N.forks.take i)).1.map V.int)) ∧ H2 lf = some (.lst ((lay N.lanes (N.forks.take i)).2.map V.int)))
    ⟨⟨_, _, _, rfl⟩, s3, by rw [upd_ne nrf, upd_same, tn, noughts]; rfl, upd_same⟩ (fun i σ H2 _ q => SqT.of (q.2.1 _ _ na.forks)) ?_ ?_
  · rintro i p σ H2 hp ⟨⟨v6, v7, v8, rfl⟩, s4, h1, h2⟩
    obtain ⟨a, g, rfl, eg, ha⟩ := (na.prs.tups (Tups.of s4)).get hp
    have okg := ok.fk g (List.mem_of_getElem? eg)
    have ig : i < N.forks.length := (List.getElem?_eq_some_iff.mp eg).1
    have ln := lay_lens (n := N.lanes) i N.forks (by lia)
    have lx := lay_take (n := N.lanes) eg
    generalize lay N.lanes (N.forks.take i) = st at *
    refine ⟨a, _, rfl, SqT.of ha, rfl, _, _, rfl, _, _, rfl, rfl, ?_⟩
    refine ⟨_, rfl, _, rfl, lr, _, _, _, rfl, rfl, SqL.of h1, at_int (by lia), _, rfl, _, rfl, lr, _, _, _, rfl, rfl, SqL.of h1, at_int (by lia), _, _, rfl, _, _, rfl, rfl, ?_⟩
    refine ⟨_, rfl, _, rfl, _, rfl, lr, _, _, g.1, rfl, rfl, h1, ix_at (by rw [List.length_map]; lia), ?_⟩
    refine ⟨_, rfl, _, rfl, _, rfl, lr, _, _, g.2, rfl, rfl, upd_same, ix_at (by rw [List.length_set, List.length_map]; lia), ?_⟩
    have h3 : ∀ x y, L2.upd (L2.upd H2 lr x) lr y lf = some (.lst (st.2.map V.int)) := fun x y => by rw [upd_ne nrf.symm, upd_ne nrf.symm]; exact h2
    refine ⟨_, rfl, .inl ⟨rfl, _, SqL.of (h3 _ _)⟩, _, rfl, lf, _, _, rfl, rfl, h3 _ _, by rw [List.length_map, ln.2]; exact Nat.lt_of_lt_of_le (show i < 1000 by lia) (by decide), ⟨_, _, _, rfl⟩, fun b o e => ?_, ?_, ?_⟩
    · rw [upd_ne (ne_of_none e hlf0), upd_ne (ne_of_none e hlr0), upd_ne (ne_of_none e hlr0)]; exact s4 b o e
    · rw [upd_ne nrf, upd_same, lx]
      unfold layStep
      rw [set_ints, set_ints]; rfl
    · rw [upd_same, lx]
      unfold layStep
      rw [List.map_append]; rfl
  · rintro σ H2 ⟨⟨v6, v7, v8, rfl⟩, s4, h1, h2⟩
    rw [pl, List.take_length] at h2
    exact ⟨_, rfl, lf, _, rfl, .inl ⟨SqL.of h2, fun q hq => k q _ (s4.trans (same_new hq _)) upd_same⟩⟩
end
end K33
end
section
set_option maxHeartbeats 4000001
namespace K33
open PySem L2 Own Bn
abbrev sDepth : Stmt := top 5
def spDepth : Sp := fun vs H Q _ => ∃ r fr er ps N, vs = [.ref r] ∧ Nt.Ok N ∧ NetAt H r fr er ps N ∧ ∀ M H', Same H H' → M ∈ 0 :: layers N → (∀ z ∈ layers N, z ≤ M) → (layers N = [] → M = 0) → (layers N ≠ [] → M ∈ layers N) → Q (.int M) H'
section
variable {P : Program} {w : World} {K : PySem.W.Frag} {mg : Str → Option Value} {base : Heap}
theorem scD : FnScope ["net"] ["net"] (defScope sDepth) := ⟨rfl, rfl, rfl, by decide +kernel, rfl, by decide +kernel, by decide +kernel⟩
theorem ok_depth {f fY : Addr} {fd dY : FuncData} (F : Fun K "depth" "depth" sDepth f fd) (G : Mgs mg) (UY : Use P w K mg base "layers" ["net"] 1 spLayers fY dY) : FnOk P w K mg base CX0 2 f fd ["net"] spDepth := by
  refine F.ok scD (fun vs H Q E h => ?_) (fun cdv A outer s H vs Q E hr h => ?_)
  · obtain ⟨r, fr, er, ps, N, rfl, _⟩ := h
    rfl
  obtain ⟨r, fr, er, ps, N, rfl, ok, na, k⟩ := h
  refine ⟨_, (@pss_one _ _ _ (@ps_ret _ _ _ _ (@pe_maxD _ _ _ _ _ _ _ _ false rfl (by rfl) G.max (@pe_call _ _ _ _ _ _ _ _ _ _ _ _ _ _ _ _ UY.ok hr (by rfl) UY.m UY.kp UY.b .nil pass0 (@pa_cons _ _ _ _ _ (@pv _ 0 _ _ (by rfl) (by first | exact Or.inl rfl | exact Or.inr (Or.inl rfl) | exact Or.inr (Or.inr rfl)) (by decide) (by decide)) pa_nil (by rfl)) (by decide) (by rfl) (by rfl)) pe_int (by rfl) (by rfl) (by rfl) (by rfl)))), ?_⟩
  refine ⟨_, rfl, r, fr, er, ps, N, rfl, ok, na, fun p H1 s1 hp => ?_⟩
  refine ⟨p, layers N, 0, rfl, rfl, SqT.of hp, fun e => k 0 H1 s1 List.mem_cons_self (fun z hz => by rw [e] at hz; simp at hz) (fun _ => rfl) (fun ne => absurd e ne), fun ne M hM hz => k M H1 s1 (List.mem_cons_of_mem _ hM) hz (fun e => absurd e ne) (fun _ => hM)⟩
end
end K33
end
section
set_option maxHeartbeats 4000001
namespace Bn
open PySem L2 Own
abbrev Fk := Nat × Nat
inductive Sw {α : Type} : List (α × Fk) → List (α × Fk) → Prop where
  | refl (l : List (α × Fk)) : Sw l l
  | swap (pre : List (α × Fk)) (x y : α × Fk) (post : List (α × Fk)) (h : meets x.2 y.2 = false) : Sw (pre ++ x :: y :: post) (pre ++ y :: x :: post)
  | trans {a b c : List (α × Fk)} (h : Sw a b) (g : Sw b c) : Sw a c
theorem Sw.cons {α : Type} (x : α × Fk) {a b : List (α × Fk)} (h : Sw a b) : Sw (x :: a) (x :: b) := by
  induction h with
  | refl l => exact .refl _
  | swap pre u v post h => exact .swap (x :: pre) u v post h
  | trans _ _ ih1 ih2 => exact .trans ih1 ih2
theorem Sw.perm {α : Type} {a b : List (α × Fk)} (h : Sw a b) : b.Perm a := by
  induction h with
  | refl l => exact .refl _
  | swap pre u v post h => exact List.Perm.append_left pre (List.Perm.swap u v post)
  | trans _ _ ih1 ih2 => exact ih2.trans ih1
def run {σ α : Type} (step : σ → Fk → σ × α) : σ → List Fk → σ × List (α × Fk)
  | s, [] => (s, [])
  | s, f :: fs => ((run step (step s f).1 fs).1, ((step s f).2, f) :: (run step (step s f).1 fs).2)
theorem run_forks {σ α : Type} (step : σ → Fk → σ × α) : ∀ (s : σ) (fs : List Fk), (run step s fs).2.map Prod.snd = fs
  | _, [] => rfl
  | s, f :: fs => by
    show f :: ((run step (step s f).1 fs).2.map Prod.snd) = f :: fs
    rw [run_forks step]
def Commutes {σ α : Type} (step : σ → Fk → σ × α) : Prop := ∀ s f g, meets f g = false → (step (step s f).1 g).1 = (step (step s g).1 f).1 ∧ (step (step s f).1 g).2 = (step s g).2 ∧ (step (step s g).1 f).2 = (step s f).2
theorem run_sw {σ α : Type} {step : σ → Fk → σ × α} (C : Commutes step) {a b : List (α × Fk)} (h : Sw a b) : ∀ s, (run step s (a.map Prod.snd)).2 = a → (run step s (b.map Prod.snd)).2 = b ∧ (run step s (b.map Prod.snd)).1 = (run step s (a.map Prod.snd)).1 := by
  induction h with
  | refl l => exact fun s e => ⟨e, rfl⟩
  | swap pre x y post hm =>
    induction pre with
    | nil =>
      intro s e
      obtain ⟨x1, x2⟩ := x
      obtain ⟨y1, y2⟩ := y
      obtain ⟨c1, c2, c3⟩ := C s x2 y2 hm
      simp only [List.nil_append, List.map_cons, run] at e ⊢
      obtain ⟨e1, e2⟩ := List.cons.inj e
      obtain ⟨e3, e4⟩ := List.cons.inj e2
      have f1 := (Prod.mk.inj e1).1
      have f3 := (Prod.mk.inj e3).1
      rw [← c1, c3, f1, e4, ← c2, f3]
      exact ⟨rfl, rfl⟩
    | cons z pre ih =>
      intro s e
      obtain ⟨z1, z2⟩ := z
      simp only [List.cons_append, List.map_cons, run] at e ⊢
      obtain ⟨e1, e2⟩ := List.cons.inj e
      obtain ⟨i1, i2⟩ := ih _ e2
      rw [i1, i2, e1]
      exact ⟨rfl, rfl⟩
  | trans _ _ ih1 ih2 =>
    intro s e
    obtain ⟨a1, a2⟩ := ih1 s e
    obtain ⟨b1, b2⟩ := ih2 s a1
    exact ⟨b1, b2.trans a2⟩
theorem meets_ne {f g : Fk} (h : meets f g = false) : f.1 ≠ g.1 ∧ f.1 ≠ g.2 ∧ f.2 ≠ g.1 ∧ f.2 ≠ g.2 := by
  unfold meets at h
  rw [Bool.or_eq_false_iff, decide_eq_false_iff_not, decide_eq_false_iff_not] at h
  lia
theorem getD_set {l : List Int} {i j : Nat} {x : Int} (h : i ≠ j) : (l.set i x).getD j 0 = l.getD j 0 := by
  rw [List.getD_eq_getElem?_getD, List.getElem?_set_ne h, ← List.getD_eq_getElem?_getD]
theorem set4 (l : List Int) {a b c d : Nat} {x y z w : Int} (h1 : a ≠ c) (h2 : a ≠ d) (h3 : b ≠ c) (h4 : b ≠ d) : (((l.set a x).set b y).set c z).set d w = (((l.set c z).set d w).set a x).set b y := by
  rw [List.set_comm _ _ h3, List.set_comm _ _ h1, List.set_comm _ _ h4, List.set_comm _ _ h2]
def layS (re : List Int) (f : Fk) : List Int × Int := ((re.set f.1 (1 + big (re.getD f.1 0) (re.getD f.2 0))).set f.2 (1 + big (re.getD f.1 0) (re.getD f.2 0)), 1 + big (re.getD f.1 0) (re.getD f.2 0))
theorem layS_com : Commutes layS := fun s f g h => by
  obtain ⟨h1, h2, h3, h4⟩ := meets_ne h
  unfold layS
  simp only [getD_set h1, getD_set h2, getD_set h3, getD_set h4, getD_set h1.symm, getD_set h2.symm, getD_set h3.symm, getD_set h4.symm]
  exact ⟨set4 _ h1 h2 h3 h4, trivial, trivial⟩
theorem lay_run : ∀ (fs : List Fk) (re fo : List Int), fs.foldl layStep (re, fo) = ((run layS re fs).1, fo ++ (run layS re fs).2.map Prod.fst)
  | [], re, fo => by
    show (re, fo) = (re, fo ++ [])
    rw [List.append_nil]
  | f :: fs, re, fo => by
    rw [List.foldl_cons]
    show fs.foldl layStep ((layS re f).1, fo ++ [(layS re f).2]) = _
    rw [lay_run fs]
    show (_, fo ++ [(layS re f).2] ++ _) = (_, fo ++ ((layS re f).2 :: _))
    rw [List.append_assoc]; rfl
def pz (N : Nt) : List (Int × Fk) := (run layS (List.replicate N.lanes 0) N.forks).2
theorem pz_layers (N : Nt) : (pz N).map Prod.fst = layers N := by
  unfold layers lay pz
  rw [lay_run]; rfl
theorem pz_forks (N : Nt) : (pz N).map Prod.snd = N.forks := run_forks _ _ _
theorem run_inc : ∀ (fs : List Fk) (re : List Int), (∀ f ∈ fs, f.1 < re.length ∧ f.2 < re.length) → (∀ y ∈ (run layS re fs).2, re.getD y.2.1 0 < y.1 ∧ re.getD y.2.2 0 < y.1) ∧ (run layS re fs).2.Pairwise fun x y => meets x.2 y.2 = true → x.1 < y.1
  | [], re, _ => ⟨fun y hy => by simp [run] at hy, List.Pairwise.nil⟩
  | f :: fs, re, ok => by
    have okf := ok f List.mem_cons_self
    obtain ⟨i1, i2⟩ := run_inc fs (layS re f).1 fun g hg => by
      have := ok g (List.mem_cons_of_mem _ hg)
      unfold layS
      simpa using this
    have gl := big_l (re.getD f.1 0) (re.getD f.2 0)
    have gr := big_r (re.getD f.1 0) (re.getD f.2 0)
    have st : ∀ lane, (layS re f).1.getD lane 0 = if f.2 = lane then (layS re f).2 else if f.1 = lane then (layS re f).2 else re.getD lane 0 := fun lane => by
      by_cases hl : lane < re.length
      · unfold layS
        rw [set_getD (by simp [hl]), set_getD hl]
      · have n1 : f.2 ≠ lane := by lia
        have n2 : f.1 ≠ lane := by lia
        rw [if_neg n1, if_neg n2]
        unfold layS
        rw [getD_set n1, getD_set n2]
    have m1 : (layS re f).2 = 1 + big (re.getD f.1 0) (re.getD f.2 0) := rfl
    have up : ∀ lane, re.getD lane 0 ≤ (layS re f).1.getD lane 0 := fun lane => by
      rw [st lane]
      split
      · next h => subst h; lia
      · split
        · next h => subst h; lia
        · exact Int.le_refl _
    refine ⟨fun y hy => ?_, List.pairwise_cons.mpr ⟨fun y hy hm => ?_, i2⟩⟩
    · rcases List.mem_cons.mp hy with rfl | hy2
      · show re.getD f.1 0 < (layS re f).2 ∧ re.getD f.2 0 < (layS re f).2
        lia
      · have := i1 y hy2
        have a := up y.2.1
        have b := up y.2.2
        lia
    · show (layS re f).2 < y.1
      have hy2 := i1 y hy
      rw [st, st] at hy2
      unfold meets at hm
      rw [Bool.or_eq_true, decide_eq_true_eq, decide_eq_true_eq] at hm
      have hm : (f.1 = y.2.1 ∨ f.1 = y.2.2) ∨ (f.2 = y.2.1 ∨ f.2 = y.2.2) := hm
      rcases hm with (h | h) | (h | h)
      · have := hy2.1
        by_cases q : f.2 = y.2.1
        · rw [if_pos q] at this; exact this
        · rw [if_neg q, if_pos h] at this; exact this
      · have := hy2.2
        by_cases q : f.2 = y.2.2
        · rw [if_pos q] at this; exact this
        · rw [if_neg q, if_pos h] at this; exact this
      · have := hy2.1; rw [if_pos h] at this; exact this
      · have := hy2.2; rw [if_pos h] at this; exact this
def rnk (x : Int × Fk) : Int := x.1 * 1024 + x.2.1 * 32 + x.2.2
def ins (x : Int × Fk) : List (Int × Fk) → List (Int × Fk)
  | [] => [x]
  | y :: l => if rnk x ≤ rnk y then x :: y :: l else y :: ins x l
def isort : List (Int × Fk) → List (Int × Fk)
  | [] => []
  | x :: l => ins x (isort l)
theorem insP (x : Int × Fk) : ∀ l, (ins x l).Perm (x :: l)
  | [] => .refl _
  | y :: l => by
    unfold ins
    split
    · exact .refl _
    · exact ((insP x l).cons y).trans (List.Perm.swap x y l)
theorem isort_perm : ∀ l, (isort l).Perm l
  | [] => .refl _
  | x :: l => (insP x _).trans ((isort_perm l).cons x)
theorem ins_sorted (x : Int × Fk) : ∀ l : List (Int × Fk), l.Pairwise (fun a b => rnk a ≤ rnk b) → (ins x l).Pairwise (fun a b => rnk a ≤ rnk b)
  | [], _ => List.pairwise_singleton _ _
  | y :: l, h => by
    obtain ⟨h1, h2⟩ := List.pairwise_cons.mp (id h)
    unfold ins
    split
    · next le =>
      refine List.pairwise_cons.mpr ⟨fun z hz => ?_, h⟩
      rcases List.mem_cons.mp hz with rfl | hz2
      · exact le
      · exact Int.le_trans le (h1 z hz2)
    · next gt =>
      refine List.pairwise_cons.mpr ⟨fun z hz => ?_, ins_sorted x l h2⟩
      rcases List.mem_cons.mp ((insP x l).mem_iff.mp hz) with rfl | hz
      · lia
      · exact h1 z hz
theorem isort_sorted : ∀ l, (isort l).Pairwise (fun a b => rnk a ≤ rnk b)
  | [] => List.Pairwise.nil
  | x :: l => ins_sorted x _ (isort_sorted l)
theorem ins_sw (x : Int × Fk) : ∀ l : List (Int × Fk), (∀ y ∈ l, y.2.1 < 32 ∧ y.2.2 < 32) → x.2.1 < 32 → x.2.2 < 32 → (∀ y ∈ l, meets x.2 y.2 = true → x.1 < y.1) → Sw (x :: l) (ins x l)
  | [], _, _, _, _ => .refl _
  | y :: l, bd, b1, b2, h => by
    unfold ins
    split
    · exact .refl _
    · next gt =>
      have hy := bd y List.mem_cons_self
      have no : meets x.2 y.2 = false := by
        cases q : meets x.2 y.2 with
        | false => rfl
        | true =>
          have := h y List.mem_cons_self q
          unfold rnk at gt
          lia
      exact .trans (.swap [] x y l no) ((ins_sw x l (fun z hz => bd z (List.mem_cons_of_mem _ hz)) b1 b2 fun z hz => h z (List.mem_cons_of_mem _ hz)).cons y)
theorem isort_sw : ∀ l : List (Int × Fk), (∀ y ∈ l, y.2.1 < 32 ∧ y.2.2 < 32) → l.Pairwise (fun x y => meets x.2 y.2 = true → x.1 < y.1) → Sw l (isort l)
  | [], _, _ => .refl _
  | x :: l, bd, h => by
    obtain ⟨h1, h2⟩ := List.pairwise_cons.mp (id h)
    have bx := bd x List.mem_cons_self
    have ih := isort_sw l (fun y hy => bd y (List.mem_cons_of_mem _ hy)) h2
    refine .trans (ih.cons x) (ins_sw x _ (fun y hy => bd y (List.mem_cons_of_mem _ ((isort_perm l).mem_iff.mp hy))) bx.1 bx.2 fun y hy => h1 y ((isort_perm l).mem_iff.mp hy))
theorem sorted_unique {a b : List (Int × Fk)} (p : a.Perm b) (bd : ∀ y ∈ b, y.2.1 < 32 ∧ y.2.2 < 32) (sa : a.Pairwise (fun x y => rnk x ≤ rnk y)) (sb : b.Pairwise (fun x y => rnk x ≤ rnk y)) : a = b := by
  refine List.Perm.eq_of_pairwise (le := fun x y => rnk x ≤ rnk y) (fun x y hx hy h1 h2 => ?_) sa sb p
  have bx := bd x (p.mem_iff.mp hx)
  have by' := bd y hy
  obtain ⟨x1, x2, x3⟩ := x
  obtain ⟨y1, y2, y3⟩ := y
  unfold rnk at h1 h2
  simp only at h1 h2 bx by'
  have e1 : x1 = y1 := by lia
  have e2 : x2 = y2 := by lia
  have e3 : x3 = y3 := by lia
  rw [e1, e2, e3]
def plainF (N : Nt) : List Fk := (isort (pz N)).map Prod.snd
def plainN (N : Nt) : Nt := ⟨N.lanes, plainF N, N.ends⟩
theorem pz_mem {N : Nt} {y : Int × Fk} (h : y ∈ pz N) : y.2 ∈ N.forks := by
  rw [← pz_forks N]; exact List.mem_map.mpr ⟨y, h, rfl⟩
theorem pz_low {N : Nt} (ok : N.Ok) : ∀ y ∈ pz N, y.2.1 < 32 ∧ y.2.2 < 32 := fun y hy => by
  have := ok.fk y.2 (pz_mem hy)
  have := ok.l16
  lia
theorem pz_inc {N : Nt} (ok : N.Ok) : (pz N).Pairwise fun x y => meets x.2 y.2 = true → x.1 < y.1 :=
  (run_inc N.forks (List.replicate N.lanes 0) fun f hf => by
    have := ok.fk f hf
    rw [List.length_replicate]; lia).2
theorem plain_sw {N : Nt} (ok : N.Ok) : Sw (pz N) (isort (pz N)) := isort_sw _ (pz_low ok) (pz_inc ok)
theorem plain_perm (N : Nt) : (plainF N).Perm N.forks := by
  have := (isort_perm (pz N)).map Prod.snd
  rwa [pz_forks] at this
theorem plain_ok {N : Nt} (ok : N.Ok) : (plainN N).Ok := ⟨ok.l1, ok.l16, by
  show (plainF N).length ≤ 128
  rw [(plain_perm N).length_eq]; exact ok.fm, fun f hf => ok.fk f ((plain_perm N).mem_iff.mp hf), ok.en⟩
theorem pz_sw {N N' : Nt} {b : List (Int × Fk)} (hl : N'.lanes = N.lanes) (h : Sw (pz N) b) (hb : b.map Prod.snd = N'.forks) : pz N' = b := by
  have := (run_sw layS_com h (List.replicate N.lanes 0) (by rw [pz_forks]; rfl)).1
  unfold pz
  rw [hl, ← hb]; exact this
theorem plain_of_sw {N N' : Nt} (ok : N.Ok) {b : List (Int × Fk)} (hl : N'.lanes = N.lanes) (h : Sw (pz N) b) (hb : b.map Prod.snd = N'.forks) : plainF N' = plainF N := by
  unfold plainF
  rw [pz_sw hl h hb]
  congr 1
  exact sorted_unique ((isort_perm b).trans (h.perm.trans (isort_perm _).symm)) (fun y hy => pz_low ok y ((isort_perm _).mem_iff.mp hy)) (isort_sorted _) (isort_sorted _)
theorem plain_plain {N : Nt} (ok : N.Ok) : plainF (plainN N) = plainF N := plain_of_sw (N' := plainN N) ok rfl (plain_sw ok) rfl
theorem plain_of_sorted {N : Nt} (ok : N.Ok) {zs : List (Int × Fk)} (p : zs.Perm (pz N)) (so : zs.Pairwise (fun a b => rnk a ≤ rnk b)) : zs = isort (pz N) :=
  sorted_unique (p.trans (isort_perm _).symm) (fun y hy => pz_low ok y ((isort_perm _).mem_iff.mp hy)) so (isort_sorted _)
end Bn
end
section
set_option maxHeartbeats 4000001
namespace Ts
open PySem PyProof.Rows
structure Cmp (prog : Program) (w : World) (A : Around) (s : Shared) (κ : SortKind) (P : Keyed → Prop) (rk : Keyed → Int) : Prop where
  ask : ∀ (x y : Keyed), P x → P y → ∀ {Q : Bool → Shared → Prop} {E : Value → Shared → Prop}, Q (decide (rk x < rk y)) s → wpAny (model prog w) A (keyLt' κ x.1 y.1) Q E s
def R (rk : Keyed → Int) (xs : Array Keyed) (i : Nat) : Int := match xs[i]? with
  | some p => rk p
  | none => 0
theorem R_congr {rk : Keyed → Int} {xs ys : Array Keyed} {i j : Nat} (h : xs[i]? = ys[j]?) : R rk xs i = R rk ys j := by unfold R; rw [h]
def Up (rk : Keyed → Int) (xs : Array Keyed) (lo n : Nat) : Prop := ∀ i j, lo ≤ i → i ≤ j → j < lo + n → R rk xs i ≤ R rk xs j
def Dn (rk : Keyed → Int) (xs : Array Keyed) (lo n : Nat) : Prop := ∀ i j, lo ≤ i → i ≤ j → j < lo + n → R rk xs j ≤ R rk xs i
structure Bs (κ : SortKind) (P : Keyed → Prop) (a₀ : Array Keyed) (st : SortSt) : Prop where
  kind : kindOf st = κ
  fail : failedOf st = none
  perm : (arrOf st).Perm a₀
  all : ∀ p ∈ a₀.toList, P p
theorem Bs.size {κ : SortKind} {P : Keyed → Prop} {a₀ : Array Keyed} {st : SortSt} (h : Bs κ P a₀ st) : (arrOf st).size = a₀.size := h.perm.size_eq
theorem Bs.at {κ : SortKind} {P : Keyed → Prop} {a₀ : Array Keyed} {st : SortSt} (h : Bs κ P a₀ st) {i : Nat} (hi : i < a₀.size) (rk : Keyed → Int) : ∃ p, (arrOf st)[i]? = some p ∧ P p ∧ R rk (arrOf st) i = rk p := by
  have e : (arrOf st)[i]? = some ((arrOf st)[i]'(by rw [h.size]; exact hi)) := getElem?_pos (arrOf st) i (by rw [h.size]; exact hi)
  refine ⟨_, e, h.all _ ((Array.perm_iff_toList_perm.mp h.perm).mem_iff.mp (by simp)), ?_⟩
  unfold R; rw [e]
theorem Bs.arr {κ : SortKind} {P : Keyed → Prop} {a₀ : Array Keyed} {st : SortSt} (h : Bs κ P a₀ st) {xs : Array Keyed} (hp : xs.Perm (arrOf st)) : Bs κ P a₀ (setArr st xs) := ⟨h.kind, h.fail, hp.trans h.perm, h.all⟩
section
variable {prog : Program} {w : World} {A : Around} {E : Value → Shared → Prop} {s : Shared} {κ : SortKind} {P : Keyed → Prop} {rk : Keyed → Int} {a₀ : Array Keyed}
theorem lt_of (C : Cmp prog w A s κ P rk) {st : SortSt} {x y : Keyed} {Q : Option Bool → SortSt → Prop} (hk : kindOf st = κ) (px : P x) (py : P y) (h : Q (some (decide (rk x < rk y))) st) : wpS (model prog w) A E s (lt' x y) Q st := by
  rw [lt'_eq]
  refine wpS_bind (wpS_get (wpS_bind (wpS_lift (wpAny_attempt ?_))))
  rw [hk]
  exact C.ask x y px py ⟨rfl, wpS_pure h⟩
theorem rule_of {r : String} {st : SortSt} {Q : Unit → SortSt → Prop} (h : Q () st) : wpS (model prog w) A E s (liftM (rule r) : StateT SortSt Sem Unit) Q st := wpS_lift (wpAny_rule ⟨rfl, h⟩)
theorem elem_of {st : SortSt} {arr : Array Keyed} {i : Nat} {p : Keyed} {Q : Keyed → SortSt → Prop} (e : arr[i]? = some p) (h : Q p st) : wpS (model prog w) A E s (elem' arr i) Q st := by
  rw [elem'_eq, e]; exact wpS_pure h
theorem lt_at (C : Cmp prog w A s κ P rk) {st : SortSt} {i j : Nat} {Q : Option Bool → SortSt → Prop} (hB : Bs κ P a₀ st) (hi : i < a₀.size) (hj : j < a₀.size) (h : Q (some (decide (R rk (arrOf st) i < R rk (arrOf st) j))) st) : wpS (model prog w) A E s (ltAt' i j) Q st := by
  obtain ⟨p, e1, pp, r1⟩ := hB.at hi rk
  obtain ⟨q, e2, pq, r2⟩ := hB.at hj rk
  rw [r1, r2] at h
  rw [ltAt'_eq]
  exact wpS_bind (wpS_get (wpS_bind (elem_of e1 (wpS_bind (elem_of e2 (lt_of C hB.kind pp pq h))))))
structure Keep (κ : SortKind) (P : Keyed → Prop) (rk : Keyed → Int) (a₀ : Array Keyed) (lo : Nat) (st st' : SortSt) : Prop where
  b : Bs κ P a₀ st'
  pend : pendingOf st' = pendingOf st
  low : ∀ k, k < lo → R rk (arrOf st') k = R rk (arrOf st) k
theorem Keep.refl {lo : Nat} {st : SortSt} (h : Bs κ P a₀ st) : Keep κ P rk a₀ lo st st := ⟨h, rfl, fun _ _ => rfl⟩
theorem Keep.trans {lo : Nat} {st st1 st2 : SortSt} (h : Keep κ P rk a₀ lo st st1) (g : Keep κ P rk a₀ lo st1 st2) : Keep κ P rk a₀ lo st st2 := ⟨g.b, g.pend.trans h.pend, fun k hk => (g.low k hk).trans (h.low k hk)⟩
theorem R_mirror {xs : Array Keyed} {i j : Nat} (hj : j ≤ xs.size) (k : Nat) : R rk (mirror xs i j ((j - i) / 2)) k = if i ≤ k ∧ k < j then R rk xs (i + j - 1 - k) else R rk xs k := by
  have e := getElem?_mirror_all (xs := xs) (i := i) hj k
  split at e
  · next h => rw [if_pos h]; exact R_congr e
  · next h => rw [if_neg h]; exact R_congr e
theorem rev_of {lo i j : Nat} {st : SortSt} {Q : Unit → SortSt → Prop} (hB : Bs κ P a₀ st) (hl : lo ≤ i) (hj : j ≤ a₀.size)
    (h : ∀ st', Keep κ P rk a₀ lo st st' → (∀ k, R rk (arrOf st') k = if i ≤ k ∧ k < j then R rk (arrOf st) (i + j - 1 - k) else R rk (arrOf st) k) → Q () st') : wpS (model prog w) A E s (reverseSlice' i j) Q st := by
  rw [reverseSlice'_eq]
  refine wpS_modify (h _ ⟨hB.arr (mirror_perm _ _ _ _), rfl, fun k hk => ?_⟩ fun k => ?_)
  · show R rk (mirror (arrOf st) i j ((j - i) / 2)) k = _
    rw [R_mirror (by rw [hB.size]; exact hj), if_neg (by lia)]
  · exact R_mirror (by rw [hB.size]; exact hj) k
theorem count_ok (C : Cmp prog w A s κ P rk) {st : SortSt} {lo nrem : Nat} {Q : Option Nat → SortSt → Prop} (hB : Bs κ P a₀ st) (h1 : 1 ≤ nrem) (hn : lo + nrem ≤ a₀.size)
    (h : ∀ st' m, Keep κ P rk a₀ lo st st' → 1 ≤ m → m ≤ nrem → Up rk (arrOf st') lo m → Q (some m) st') : wpS (model prog w) A E s (countRun' lo nrem) Q st := by
  have asc : ∀ (st : SortSt) (n0 : Nat) {Q' : Option (Option Nat) × Nat → SortSt → Prop}, Bs κ P a₀ st → 1 ≤ n0 → Up rk (arrOf st) lo n0 →
      (∀ n, n0 ≤ n → n ≤ max n0 nrem → Up rk (arrOf st) lo n → (n < nrem → R rk (arrOf st) (lo + n) < R rk (arrOf st) (lo + n - 1)) → Q' (none, n) st) → 
      ∀ f : Nat → Option (Option Nat) × Nat → StateT SortSt Sem (ForInStep (Option (Option Nat) × Nat)), (∀ i n, f i (none, n) = (do
        let some smaller ← ltAt' (lo + n) (lo + n - 1) | pure (.done (some none, n))
        if smaller then pure (.done (none, n)) else pure (.yield (none, n + 1)))) → wpS (model prog w) A E s (forIn [n0:nrem] (none, n0) f) Q' st := by
    intro st n0 Q' hB h0 hu hq f hf
    refine wpS_forRange (I := fun i c st' => st' = st ∧ c = (none, i) ∧ n0 ≤ i ∧ Up rk (arrOf st) lo i) ?_ ?_ ⟨rfl, rfl, Nat.le_refl _, hu⟩
    · rintro i c st' hi hi2 ⟨rfl, rfl, h3, hu'⟩
      rw [hf]
      refine wpS_bind (lt_at C hB (by lia) (by lia) ?_)
      by_cases z : R rk (arrOf st') (lo + i) < R rk (arrOf st') (lo + i - 1)
      · rw [decide_eq_true z]
        exact wpS_pure (hq i h3 (by lia) hu' fun _ => z)
      · rw [decide_eq_false z]
        refine wpS_pure ⟨rfl, rfl, by lia, fun a b ha hab hb => ?_⟩
        by_cases q : b < lo + i
        · exact hu' a b ha hab q
        · obtain rfl : b = lo + i := by lia
          by_cases q2 : a = lo + i
          · rw [q2]; exact Int.le_refl _
          · have := hu' a (lo + i - 1) ha (by lia) (by lia)
            lia
    · rintro c st' ⟨rfl, rfl, h3, hu'⟩
      exact hq _ h3 (Nat.le_refl _) hu' fun q => by lia
  rw [countRun'_eq]
  refine wpS_bind (asc st 1 hB (Nat.le_refl _) (fun a b h1 h2 h3 => by rw [show a = b by lia]; exact Int.le_refl _) (fun n n1 n2 hu hs => ?_) _ (fun i n => rfl))
  dsimp only
  by_cases z : n = nrem
  · subst z
    rw [if_pos (beq_self_eq_true _)]
    exact wpS_pure (h _ _ (Keep.refl hB) n1 (Nat.le_refl _) hu)
  rw [if_neg (by simpa using z)]
  have nl : n < nrem := by lia
  have hs := hs nl
  generalize hT : (bind (liftM (rule "list.sort.descending-run")) _ : StateT SortSt Sem (Option Nat)) = T
  have tail : ∀ st1, Keep κ P rk a₀ lo st st1 → Dn rk (arrOf st1) lo n → R rk (arrOf st1) (lo + n) < R rk (arrOf st1) (lo + n - 1) → wpS (model prog w) A E s T Q st1 := by
    intro st1 K1 d1 l1
    rw [← hT]
    refine wpS_bind (rule_of ?_)
    have last : ∀ st2 m, Keep κ P rk a₀ lo st st2 → 1 ≤ m → m ≤ nrem → Dn rk (arrOf st2) lo m → ∀ st3, Keep κ P rk a₀ lo st2 st3 → (∀ k, R rk (arrOf st3) k = if lo ≤ k ∧ k < lo + m then R rk (arrOf st2) (lo + (lo + m) - 1 - k) else R rk (arrOf st2) k) → Up rk (arrOf st3) lo m := by
      intro st2 m K2 m1 m2 d2 st3 K3 r3 a b ha hab hb
      rw [r3, r3, if_pos ⟨by lia, by lia⟩, if_pos ⟨by lia, by lia⟩]
      exact d2 _ _ (by lia) (by lia) (by lia)
    refine wpS_bind (wpS_mono (wpS_forRange (I := fun i c st2 => ∃ m q, c = (none, m, q) ∧ m = i ∧ q + 1 ≤ m ∧ Keep κ P rk a₀ lo st st2 ∧ (i ≤ nrem → Dn rk (arrOf st2) lo m ∧ ∀ k, lo + m - (q + 1) ≤ k → k < lo + m → R rk (arrOf st2) k = R rk (arrOf st2) (lo + m - 1)))
      (Q := fun c st2 => ∃ m q, c = (none, m, q) ∧ 1 ≤ m ∧ m ≤ nrem ∧ q + 1 ≤ m ∧ Keep κ P rk a₀ lo st st2 ∧ Dn rk (arrOf st2) lo m ∧ ∀ k, lo + m - (q + 1) ≤ k → k < lo + m → R rk (arrOf st2) k = R rk (arrOf st2) (lo + m - 1)) ?step ?fin ?init) ?post)
    case init =>
      refine ⟨n + 1, 0, rfl, rfl, by lia, K1, fun _ => ⟨fun a b ha hab hb => ?_, fun k k1 k2 => by rw [show k = lo + (n + 1) - 1 by lia]⟩⟩
      by_cases q : b < lo + n
      · exact d1 a b ha hab q
      · obtain rfl : b = lo + n := by lia
        by_cases q2 : a = lo + n
        · rw [q2]; exact Int.le_refl _
        · have := d1 a (lo + n - 1) ha (by lia) (by lia)
          lia
    case fin =>
      rintro c st2 ⟨m, q, rfl, e, hq, K2, hd⟩
      obtain ⟨d2, eq2⟩ := hd (by lia)
      exact ⟨m, q, rfl, by lia, by lia, hq, K2, d2, eq2⟩
    case step =>
      rintro i c st2 hi hi2 ⟨m, q, rfl, rfl, hq, K2, hd⟩
      obtain ⟨d2, eq2⟩ := hd (by lia)
      dsimp only
      refine wpS_bind (lt_at C K2.b (by lia) (by lia) ?_)
      have more : ∀ st3, Dn rk (arrOf st3) lo m → R rk (arrOf st3) (lo + m) ≤ R rk (arrOf st3) (lo + m - 1) → Dn rk (arrOf st3) lo (m + 1) := by
        intro st3 d3 le a b ha hab hb
        by_cases q : b < lo + m
        · exact d3 a b ha hab q
        · obtain rfl : b = lo + m := by lia
          by_cases q2 : a = lo + m
          · rw [q2]; exact Int.le_refl _
          · have := d3 a (lo + m - 1) ha (by lia) (by lia)
            lia
      by_cases z1 : R rk (arrOf st2) (lo + m) < R rk (arrOf st2) (lo + m - 1)
      · rw [decide_eq_true z1]
        dsimp only
        rw [if_pos rfl]
        by_cases zq : q > 0
        · rw [if_pos zq]
          refine wpS_bind (rev_of (rk := rk) (lo := lo) K2.b (by lia) (by lia) fun st3 K3 r3 => wpS_pure ?_)
          have same : ∀ k, R rk (arrOf st3) k = R rk (arrOf st2) k := fun k => by
            rw [r3]
            split
            · rw [eq2 _ (by lia) (by lia), eq2 k (by lia) (by lia)]
            · rfl
          refine ⟨m + 1, 0, rfl, rfl, by lia, K2.trans K3, fun _ => ⟨more st3 (fun a b ha hab hb => by rw [same, same]; exact d2 a b ha hab hb) (by rw [same, same]; lia), fun k k1 k2 => by rw [show k = lo + (m + 1) - 1 by lia]⟩⟩
        · rw [if_neg zq]
          exact wpS_pure ⟨m + 1, 0, rfl, rfl, by lia, K2, fun _ => ⟨more st2 d2 (by lia), fun k k1 k2 => by rw [show k = lo + (m + 1) - 1 by lia]⟩⟩
      · rw [decide_eq_false z1]
        dsimp only
        rw [if_neg Bool.false_ne_true]
        refine wpS_bind (lt_at C K2.b (by lia) (by lia) ?_)
        by_cases z2 : R rk (arrOf st2) (lo + m - 1) < R rk (arrOf st2) (lo + m)
        · rw [decide_eq_true z2]
          dsimp only
          rw [if_pos rfl]
          exact wpS_pure ⟨m, q, rfl, by lia, by lia, hq, K2, d2, eq2⟩
        · rw [decide_eq_false z2]
          dsimp only
          rw [if_neg Bool.false_ne_true]
          have e : R rk (arrOf st2) (lo + m) = R rk (arrOf st2) (lo + m - 1) := by lia
          refine wpS_pure ⟨m + 1, q + 1, rfl, rfl, by lia, K2, fun _ => ⟨more st2 d2 (by lia), fun k k1 k2 => ?_⟩⟩
          rw [show lo + (m + 1) - 1 = lo + m by lia]
          by_cases q3 : k = lo + m
          · rw [q3]
          · rw [eq2 k (by lia) (by lia), e]
    case post =>
      rintro c st2 ⟨m, q, rfl, m1, m2, hq, K2, d2, eq2⟩
      dsimp only
      generalize hT2 : (bind (reverseSlice' lo (lo + m)) _ : StateT SortSt Sem (Option Nat)) = T2
      have on : ∀ st3, Keep κ P rk a₀ lo st st3 → Dn rk (arrOf st3) lo m → wpS (model prog w) A E s T2 Q st3 := by
        intro st3 K3 d3
        rw [← hT2]
        refine wpS_bind (rev_of (rk := rk) (lo := lo) K3.b (by lia) (by lia) fun st4 K4 r4 => ?_)
        refine wpS_bind (asc st4 m K4.b m1 (last st3 m K3 m1 m2 d3 st4 K4 r4) (fun n' a1 a2 hu' _ => ?_) _ (fun i n => rfl))
        exact wpS_pure (h _ _ (K3.trans K4) (by lia) (by lia) hu')
      by_cases zq : q > 0
      · rw [if_pos zq]
        refine wpS_bind (rev_of (rk := rk) (lo := lo) K2.b (by lia) (by lia) fun st3 K3 r3 => ?_)
        have same : ∀ k, R rk (arrOf st3) k = R rk (arrOf st2) k := fun k => by
          rw [r3]
          split
          · rw [eq2 _ (by lia) (by lia), eq2 k (by lia) (by lia)]
          · rfl
        exact on st3 (K2.trans K3) (fun a b ha hab hb => by rw [same, same]; exact d2 a b ha hab hb)
      · rw [if_neg zq]
        exact on st2 K2 d2
  by_cases z2 : n > 1
  · rw [if_pos z2]
    refine wpS_bind (lt_at C hB (by lia) (by lia) ?_)
    by_cases z3 : R rk (arrOf st) lo < R rk (arrOf st) (lo + n - 1)
    · rw [decide_eq_true z3]
      exact wpS_pure (h _ _ (Keep.refl hB) n1 (by lia) hu)
    · rw [decide_eq_false z3]
      dsimp only
      rw [if_neg Bool.false_ne_true]
      refine wpS_bind (rev_of (rk := rk) (lo := lo) hB (by lia) (by lia) fun st1 K1 r1 => tail st1 K1 (fun a b ha hab hb => ?_) ?_)
      · rw [r1, r1, if_pos ⟨by lia, by lia⟩, if_pos ⟨by lia, by lia⟩]
        exact hu _ _ (by lia) (by lia) (by lia)
      · rw [r1, r1, if_neg (by lia), if_pos ⟨by lia, by lia⟩]
        have := hu (lo + (lo + n) - 1 - (lo + n - 1)) (lo + n - 1) (by lia) (by lia) (by lia)
        have e : lo + (lo + n) - 1 - (lo + n - 1) = lo := by lia
        rw [e] at this ⊢
        have := hu lo (lo + n - 1) (by lia) (by lia) (by lia)
        lia
  · rw [if_neg z2]
    exact tail st (Keep.refl hB) (fun a b ha hab hb => by rw [show a = b by lia]; exact Int.le_refl _) hs
end
end Ts
end
section
set_option maxHeartbeats 4000001
namespace Ts
open PySem PyProof.Rows
section
variable {prog : Program} {w : World} {A : Around} {E : Value → Shared → Prop} {s : Shared} {κ : SortKind} {P : Keyed → Prop} {rk : Keyed → Int} {a₀ : Array Keyed}
theorem R_bubble {xs : Array Keyed} {src d : Nat} (hs : src < xs.size) (hd : d ≤ src) (k : Nat) : R rk (bubble xs src d) k = if k = src - d then R rk xs src else if src - d < k ∧ k ≤ src then R rk xs (k - 1) else R rk xs k := by
  have e := getElem?_bubble (xs := xs) hs d hd k
  by_cases h1 : k = src - d
  · rw [if_pos h1] at e ⊢; exact R_congr e
  · rw [if_neg h1] at e ⊢
    by_cases h2 : (src - d < k ∧ k ≤ src)
    · rw [if_pos h2] at e ⊢; exact R_congr e
    · rw [if_neg h2] at e ⊢; exact R_congr e
theorem bin_ok (C : Cmp prog w A s κ P rk) {st : SortSt} {lo n ok : Nat} {Q : Bool → SortSt → Prop} (hB : Bs κ P a₀ st) (h1 : 1 ≤ ok) (hok : ok ≤ n) (hn : lo + n ≤ a₀.size) (hu : Up rk (arrOf st) lo ok)
    (h : ∀ st', Keep κ P rk a₀ lo st st' → Up rk (arrOf st') lo n → Q true st') : wpS (model prog w) A E s (binarySort' lo n ok) Q st := by
  rw [binarySort'_eq]
  rw [show max ok 1 = ok by lia]
  refine wpS_bind (wpS_mono (wpS_forRange (I := fun k c st1 => c = (none, ()) ∧ Keep κ P rk a₀ lo st st1 ∧ Up rk (arrOf st1) lo (min k n)) (Q := fun c st1 => c = (none, ()) ∧ Keep κ P rk a₀ lo st st1 ∧ Up rk (arrOf st1) lo n) ?step ?fin ?init) ?post)
  case init => exact ⟨rfl, Keep.refl hB, by rwa [Nat.min_eq_left hok]⟩
  case fin =>
    rintro c st1 ⟨rfl, K1, u1⟩
    rw [show min (max ok n) n = n by lia] at u1
    exact ⟨rfl, K1, u1⟩
  case post =>
    rintro c st1 ⟨rfl, K1, u1⟩
    exact wpS_pure (h st1 K1 u1)
  case step =>
    rintro k c st1 hk1 hk2 ⟨rfl, K1, u1⟩
    rw [show min k n = k by lia] at u1
    refine wpS_bind (wpS_mono (wpS_forRange (I := fun x c st2 => st2 = st1 ∧ ∃ l r, c = (none, l, r) ∧ l ≤ r ∧ r ≤ k ∧ r - l ≤ k - x ∧ (∀ i, lo ≤ i → i < lo + l → R rk (arrOf st1) i ≤ R rk (arrOf st1) (lo + k)) ∧ (∀ i, lo + r ≤ i → i < lo + k → R rk (arrOf st1) (lo + k) ≤ R rk (arrOf st1) i))
      (Q := fun c st2 => st2 = st1 ∧ ∃ l r, c = (none, l, r) ∧ l ≤ k ∧ (∀ i, lo ≤ i → i < lo + l → R rk (arrOf st1) i ≤ R rk (arrOf st1) (lo + k)) ∧ (∀ i, lo + l ≤ i → i < lo + k → R rk (arrOf st1) (lo + k) ≤ R rk (arrOf st1) i)) ?istep ?ifin ?iinit) ?ipost)
    case iinit => exact ⟨rfl, 0, k, rfl, by lia, by lia, by lia, fun i _ _ => by lia, fun i _ _ => by lia⟩
    case ifin =>
      rintro c st2 ⟨rfl, l, r, rfl, lr, rk', m, h2, h3⟩
      obtain rfl : l = r := by lia
      exact ⟨rfl, l, l, rfl, rk', h2, h3⟩
    case istep =>
      rintro x c st2 _ hx ⟨rfl, l, r, rfl, lr, rk', m, h2, h3⟩
      dsimp only
      by_cases ge : l ≥ r
      · rw [if_pos ge]
        obtain rfl : l = r := by lia
        exact wpS_pure ⟨rfl, l, l, rfl, rk', h2, h3⟩
      · rw [if_neg ge]
        refine wpS_bind (lt_at C K1.b (by lia) (by lia) ?_)
        by_cases z : R rk (arrOf st2) (lo + k) < R rk (arrOf st2) (lo + (l + r) / 2)
        · rw [decide_eq_true z]
          refine wpS_pure ⟨rfl, l, (l + r) / 2, rfl, by lia, by lia, by lia, h2, fun i i1 i2 => ?_⟩
          have := u1 (lo + (l + r) / 2) i (by lia) i1 (by lia)
          lia
        · rw [decide_eq_false z]
          refine wpS_pure ⟨rfl, (l + r) / 2 + 1, r, rfl, by lia, by lia, by lia, fun i i1 i2 => ?_, h3⟩
          have := u1 i (lo + (l + r) / 2) i1 (by lia) (by lia)
          lia
    case ipost =>
      rintro c st2 ⟨rfl, l, r, rfl, lk, h2, h3⟩
      dsimp only
      rw [moveDown'_eq]
      have sz := K1.b.size
      have rb : ∀ j, R rk (arrOf (setArr st2 (bubble (arrOf st2) (lo + k) (lo + k - (lo + l))))) j = if j = lo + l then R rk (arrOf st2) (lo + k) else if lo + l < j ∧ j ≤ lo + k then R rk (arrOf st2) (j - 1) else R rk (arrOf st2) j := fun j => by
        have := R_bubble (rk := rk) (xs := arrOf st2) (src := lo + k) (d := lo + k - (lo + l)) (by rw [sz]; lia) (by lia) j
        rw [show lo + k - (lo + k - (lo + l)) = lo + l by lia] at this
        exact this
      refine wpS_bind (wpS_modify (wpS_pure ⟨rfl, K1.trans ⟨K1.b.arr (bubble_perm _ _ _), rfl, fun j hj => ?_⟩, fun i j hi hij hj => ?_⟩))
      · rw [rb, if_neg (by lia), if_neg (by lia)]
      · rw [show min (k + 1) n = k + 1 by lia] at hj
        rw [rb, rb]
        by_cases a1 : i = lo + l
        · rw [if_pos a1]
          by_cases b1 : j = lo + l
          · rw [if_pos b1]; exact Int.le_refl _
          · rw [if_neg b1, if_pos ⟨by lia, by lia⟩]
            exact h3 _ (by lia) (by lia)
        · rw [if_neg a1]
          by_cases a2 : lo + l < i ∧ i ≤ lo + k
          · rw [if_pos a2, if_neg (by lia), if_pos ⟨by lia, by lia⟩]
            exact u1 _ _ (by lia) (by lia) (by lia)
          · rw [if_neg a2]
            by_cases b1 : j = lo + l
            · rw [if_pos b1]; exact h2 _ hi (by lia)
            · rw [if_neg b1]
              by_cases b2 : lo + l < j ∧ j ≤ lo + k
              · rw [if_pos b2]; exact u1 _ _ hi (by lia) (by lia)
              · rw [if_neg b2]; exact u1 _ _ hi hij (by lia)
end
end Ts
end
section
set_option maxHeartbeats 4000001
namespace Ts
open PySem PyProof.Rows
def bd (left : Bool) (k r : Int) : Bool := if left = true then decide (r < k) else !decide (k < r)
section
variable {prog : Program} {w : World} {A : Around} {E : Value → Shared → Prop} {s : Shared} {κ : SortKind} {P : Keyed → Prop} {rk : Keyed → Int} {a₀ : Array Keyed}
end
end Ts
end
section
set_option maxHeartbeats 4000001
namespace Ts
open PySem PyProof.Rows
def Srt (rk : Keyed → Int) (l : List Keyed) : Prop := l.Pairwise fun x y => rk x ≤ rk y
section
variable {rk : Keyed → Int} {T out a b c : List Keyed}
theorem R_at {arr : Array Keyed} {i : Nat} {p : Keyed} (e : arr[i]? = some p) : R rk arr i = rk p := by unfold R; rw [e]
end
section
variable {rk : Keyed → Int} {T : List Keyed} {out a b : Array Keyed} {ia ib k : Nat} {p q : Keyed}
end
end Ts
end
section
set_option maxHeartbeats 4000001
namespace Ts
open PySem PyProof.Rows
section
variable {prog : Program} {w : World} {A : Around} {E : Value → Shared → Prop} {s : Shared} {κ : SortKind} {P : Keyed → Prop} {rk : Keyed → Int} {a₀ : Array Keyed}
end
end Ts
end
section
set_option maxHeartbeats 4000001
namespace Ts
open PySem PyProof.Rows
section
variable {rk : Keyed → Int} {T out a b c : List Keyed}
theorem cut_of (arr : Array Keyed) (n : Nat) : (arr.extract 0 n).toList = arr.toList.take n := by
  rw [Array.toList_extract, List.extract_eq_take_drop, List.drop_zero, Nat.sub_zero]
end
section
variable {rk : Keyed → Int} {T : List Keyed} {out a b : Array Keyed} {na nb i : Nat} {p q : Keyed}
end
section
variable {prog : Program} {w : World} {A : Around} {E : Value → Shared → Prop} {s : Shared} {κ : SortKind} {P : Keyed → Prop} {rk : Keyed → Int} {a₀ : Array Keyed}
end
end Ts
end
section
set_option maxHeartbeats 4000001
namespace Ts
open PySem PyProof.Rows
section
variable {rk : Keyed → Int}
theorem srt_of {arr : Array Keyed} {lo n : Nat} (h : Up rk arr lo n) (hn : lo + n ≤ arr.size) : Srt rk (arr.extract lo (lo + n)).toList := by
  refine List.pairwise_iff_getElem.mpr fun i j hi hj ij => ?_
  have hs : (arr.extract lo (lo + n)).size = n := by rw [Array.size_extract]; lia
  rw [Array.length_toList, hs] at hi hj
  have := h (lo + i) (lo + j) (by lia) (by lia) (by lia)
  rw [R_at (getElem?_pos arr (lo + i) (by lia)), R_at (getElem?_pos arr (lo + j) (by lia))] at this
  simpa using this
end
section
variable {prog : Program} {w : World} {A : Around} {E : Value → Shared → Prop} {s : Shared} {κ : SortKind} {P : Keyed → Prop} {rk : Keyed → Int} {a₀ : Array Keyed}
end
end Ts
end
section
set_option maxHeartbeats 4000001
namespace Ts
open PySem PyProof.Rows
section
variable {prog : Program} {w : World} {A : Around} {E : Value → Shared → Prop} {s : Shared} {κ : SortKind} {P : Keyed → Prop} {rk : Keyed → Int} {a₀ : Array Keyed}
theorem runs_ok (C : Cmp prog w A s κ P rk) {st : SortSt} {Q : Unit → SortSt → Prop} (hs : a₀.size < 64) (hB : Bs κ P a₀ st) (hp : pendingOf st = #[])
    (h : ∀ st', Bs κ P a₀ st' → Up rk (arrOf st') 0 a₀.size → Q () st') : wpS (model prog w) A E s sortRuns' Q st := by
  rw [sortRuns'_eq]
  refine wpS_bind (wpS_get ?_)
  dsimp only
  rw [hB.size]
  have mr : ∀ n, n < 64 → minRun' n n 0 = n := fun n hn => by
    cases n with
    | zero => rfl
    | succ n => rw [minRun'_succ, if_pos hn]
  rw [mr _ hs]
  refine wpS_bind (wpS_mono (wpS_forRange (I := fun i c st1 => ∃ lo, c = (none, lo) ∧ ((lo = 0 ∧ i = 0 ∧ Bs κ P a₀ st1 ∧ pendingOf st1 = #[]) ∨ (lo = a₀.size ∧ Bs κ P a₀ st1 ∧ (pendingOf st1).size ≤ 1 ∧ Up rk (arrOf st1) 0 a₀.size)))
    (Q := fun c st1 => ∃ lo, c = (none, lo) ∧ Bs κ P a₀ st1 ∧ (pendingOf st1).size ≤ 1 ∧ Up rk (arrOf st1) 0 a₀.size) ?step ?fin ?init) ?post)
  case init => exact ⟨0, rfl, .inl ⟨rfl, rfl, hB, hp⟩⟩
  case fin =>
    rintro c st1 ⟨lo, rfl, ⟨_, z, b, p⟩ | ⟨_, b, p, u⟩⟩
    · exact ⟨lo, rfl, b, by rw [p]; exact Nat.zero_le _, fun c d hc hcd hd => by lia⟩
    · exact ⟨lo, rfl, b, p, u⟩
  case step =>
    rintro i c st1 _ hi ⟨lo, rfl, ⟨rfl, rfl, b, p⟩ | ⟨rfl, b, p, u⟩⟩
    · dsimp only
      rw [if_neg (show ¬ 0 ≥ a₀.size by lia)]
      refine wpS_bind (count_ok C b (by lia) (by lia) fun st2 n K2 n1 n2 u2 => ?_)
      dsimp only
      have last : ∀ st4, Bs κ P a₀ st4 → pendingOf st4 = #[] → Up rk (arrOf st4) 0 a₀.size → wpS (model prog w) A E s (do
          modify fun st5 => setPending st5 ((pendingOf st5).push (0, a₀.size, 0))
          pure (ForInStep.yield ((none : Option Unit), 0 + a₀.size))) (fun r st' => match r with | .done c' => ∃ lo, c' = (none, lo) ∧ Bs κ P a₀ st' ∧ (pendingOf st').size ≤ 1 ∧ Up rk (arrOf st') 0 a₀.size | .yield c' => ∃ lo, c' = (none, lo) ∧ ((lo = 0 ∧ 0 + 1 = 0 ∧ Bs κ P a₀ st' ∧ pendingOf st' = #[]) ∨ (lo = a₀.size ∧ Bs κ P a₀ st' ∧ (pendingOf st').size ≤ 1 ∧ Up rk (arrOf st') 0 a₀.size))) st4 := by
        intro st4 b4 p4 u4
        refine wpS_bind (wpS_modify (wpS_pure ⟨0 + a₀.size, rfl, .inr ⟨Nat.zero_add _, ⟨b4.kind, b4.fail, b4.perm, b4.all⟩, ?_, u4⟩⟩))
        show ((pendingOf st4).push (0, a₀.size, 0)).size ≤ 1
        rw [p4]; exact Nat.le_refl _
      by_cases zm : n < a₀.size
      · rw [if_pos zm]
        refine wpS_bind (rule_of ?_)
        refine wpS_bind (bin_ok C K2.b n1 (by lia) (by lia) u2 fun st3 K3 u3 => ?_)
        have em : min (a₀.size - 0) a₀.size = a₀.size := by lia
        rw [em] at u3 ⊢
        rw [if_neg (show ¬ (!true) = true by decide)]
        refine wpS_bind (wpS_get ?_)
        have p3 : pendingOf st3 = #[] := by rw [K3.pend, K2.pend, p]
        rw [p3]
        exact last st3 K3.b p3 u3
      · rw [if_neg zm]
        have en : n = a₀.size := by lia
        subst en
        refine wpS_bind (wpS_get ?_)
        have p3 : pendingOf st2 = #[] := by rw [K2.pend, p]
        rw [p3]
        exact last st2 K2.b p3 u2
    · dsimp only
      rw [if_pos (Nat.le_refl _)]
      exact wpS_pure ⟨_, rfl, b, p, u⟩
  case post =>
    rintro c st1 ⟨lo, rfl, b, p, u⟩
    dsimp only
    refine wpS_bind (wpS_mono (wpS_forRange (I := fun i c st2 => c = (none, ()) ∧ st2 = st1) (Q := fun c st2 => c = (none, ()) ∧ st2 = st1) ?_ (fun c st2 hh => hh) ⟨rfl, rfl⟩) ?_)
    · rintro i c st2 _ hi ⟨rfl, rfl⟩
      refine wpS_bind (wpS_get ?_)
      rw [if_pos p]
      exact wpS_pure ⟨rfl, rfl⟩
    · rintro c st2 ⟨rfl, rfl⟩
      exact wpS_pure (h st2 b u)
end
end Ts
end
section
set_option maxHeartbeats 4000001
namespace L2
open PySem PySem.Spec PyProof.Rows Own
section
variable {X : Cx}
end
theorem cut_upto (xs : List V) (i : Nat) (h : i ≤ xs.length) : cutV xs none (some (i : Int)) = xs.take i := by
  unfold cutV
  rw [HT.sIx_none, HT.sIx_nat, List.drop_zero, Nat.sub_zero, Nat.min_eq_left h]
theorem cut_from (xs : List V) (i : Nat) (h : i ≤ xs.length) : cutV xs (some (i : Int)) none = xs.drop i := by
  unfold cutV
  rw [HT.sIx_none, HT.sIx_nat, Nat.min_eq_left h]
  exact List.take_of_length_le (by rw [List.length_drop]; exact Nat.le_refl _)
end L2
end
section
set_option maxHeartbeats 4000001
namespace L2
open PySem PySem.Spec PyProof.Rows Own
section
variable {X : Cx}
end
end L2
end
section
set_option maxHeartbeats 4000001
namespace L2
open PySem PySem.Spec PyProof.Rows Own
theorem reads_row {h : Heap} : ∀ (vs : List Value) (ds : List PyData), vs.length = ds.length → (∀ (j : Nat) (v : Value) (d : PyData), vs[j]? = some v → ds[j]? = some d → ∃ as, Reads h v d as) → ∃ as, ReadsAll h vs ds as
  | [], [], _, _ => ⟨_, .nil⟩
  | v :: vs, d :: ds, hl, q => by
    obtain ⟨as, r⟩ := q 0 v d rfl rfl
    obtain ⟨bs, r'⟩ := reads_row vs ds (by simpa using hl) fun j v' d' e1 e2 => q (j + 1) v' d' (by simpa using e1) (by simpa using e2)
    exact ⟨_, .cons r r'⟩
section
variable {X : Cx}
end
end L2
end
section
set_option maxHeartbeats 4000001
namespace L2
open PySem PySem.Spec PyProof.Rows PySem.Calls PySem.NumText Own
section
variable {prog : Program} {w : World} {A : Around} {E : Value → Shared → Prop} {s : Shared}
end
section
variable {X : Cx}
end
end L2
end
section
set_option maxHeartbeats 4000001
namespace L2
open PySem PySem.Spec PyProof.Rows Own
section
variable {X : Cx}
end
end L2
end
section
set_option maxHeartbeats 4000001
namespace L2
open PySem PySem.Spec PyProof.Rows Own
section
variable {X : Cx} {pos : Pos}
end
end L2
namespace Bn
open PySem L2 Own
end Bn
end
section
set_option maxHeartbeats 4000001
namespace L2
open PySem PySem.Spec PyProof.Rows Own
def LtAt (A : Around) (s : Shared) (y x : Value) (b : Bool) : Prop := ∀ (prog : Program) (w : World) (E : Value → Shared → Prop) (Q : Value → Shared → Prop), Q (.bool b) s → wpAny (model prog w) A (richCompare .Lt y x) Q E s
theorem LtAt.ints {A : Around} {s : Shared} (a b : Int) (t u : Tok) : LtAt A s (.int a t) (.int b u) (decide (a < b)) := fun _ _ _ _ h => lt_int h
theorem ltTup_meets (l b : Addr) (xs ys : Array Value) (n m : Nat) (d1 d2 : Option Addr) (sl1 sl2 : Array (Option Value)) (k : Nat) (k1 : k < xs.size) (k2 : k < ys.size) (c : Bool) :
    Meets (Builtin.«tuple.__lt__» ⟨[.ref l, .ref b], []⟩)
      (fun A R s => s.heap.get? l = some { cls := .type "tuple", dict := d1, data := .seq xs n, slots := sl1 } ∧ s.heap.get? b = some { cls := .type "tuple", dict := d2, data := .seq ys m, slots := sl2 } ∧
        (∀ j (h1 : j < xs.size) (h2 : j < ys.size), j < k → SeqAt.EqAt A.in1 s xs[j] ys[j] true) ∧ SeqAt.EqAt A.in1 s xs[k] ys[k] false ∧ LtAt A.in1 s xs[k] ys[k] c ∧ R (.ok (.ret (.bool c))) s) :=
  .of_wp fun prog w A R s h => by
    obtain ⟨hp, g, d, tk, os⟩ := s; obtain ⟨hl, hb, he, hk, hc, h⟩ := h
    have kinds := AutoSeq1.sub_tuple_tuple
    have zl : (xs.toList.zip ys.toList).length = min xs.size ys.size := by simp
    wp_walk using wpAny_loadPart' hl, wpAny_loadPart' hb, wpAny_forIn_list _ (fun rest b s' => b.1 = none ∧ s' = ⟨hp, g, d, tk, os⟩ ∧ ∃ i, i ≤ k ∧ rest = (xs.toList.zip ys.toList).drop i) _
    case turn =>
      rintro ⟨y, x⟩ rest b s' ⟨hb', rfl, i, ik, hz⟩
      have i1 : i < xs.size := by lia
      have i2 : i < ys.size := by lia
      have il : i < (xs.toList.zip ys.toList).length := by rw [zl]; lia
      rw [List.drop_eq_getElem_cons il] at hz
      obtain ⟨e1, e2⟩ := List.cons.inj hz
      have ey : y = xs[i] := by simpa using congrArg Prod.fst e1
      have ex : x = ys[i] := by simpa using congrArg Prod.snd e1
      subst ey ex
      by_cases z : i = k
      · subst z
        refine wpAny_bind (hk prog w _ _ ?_)
        simp only [if_true, Bool.not_false]
        refine wpAny_bind (wpAny_rule (wpAny_bind (hc prog w _ _ ?_)))
        wp_walk
        exact ⟨_, rfl, h⟩
      · refine wpAny_bind (he i i1 i2 (by lia) prog w _ _ ?_)
        wp_walk
        exact ⟨rfl, rfl, i + 1, by lia, e2⟩
    case fin =>
      rintro ⟨b1, b2⟩ s' ⟨hb', rfl, i, ik, hz⟩
      have il : i < (xs.toList.zip ys.toList).length := by rw [zl]; lia
      rw [List.drop_eq_getElem_cons il] at hz; cases hz
    case h =>
      exact ⟨rfl, rfl, 0, Nat.zero_le _, rfl⟩
theorem LtAt.tuples {A : Around} {s : Shared} {l b : Addr} {xs ys : Array Value} {k : Nat} {c : Bool} (hl : IsTup s.heap l xs) (hb : IsTup s.heap b ys) (hu : A.units < cLine) (k1 : k < xs.size) (k2 : k < ys.size)
    (he : ∀ j (h1 : j < xs.size) (h2 : j < ys.size), j < k → SeqAt.EqAt A.in1 s xs[j] ys[j] true) (hk : SeqAt.EqAt A.in1 s xs[k] ys[k] false) (hc : LtAt A.in1 s xs[k] ys[k] c) : LtAt A s (.ref l) (.ref b) c := fun prog w E Q h => by
  obtain ⟨⟨cl1, dd1, da1, sl1⟩, o1, c1, n, e1⟩ := hl
  obtain ⟨⟨cl2, dd2, da2, sl2⟩, o2, c2, m, e2⟩ := hb
  simp only at c1 e1 c2 e2; subst c1 e1 c2 e2
  exact richCompare_meets_room (op := .Lt) ⟨_, o1, rfl⟩ ⟨_, o2, rfl⟩ F.slot_tuple_lt F.entry_tuple_lt (F.args_tuple_lt_2 _ _) (ltTup_meets l b xs ys n m dd1 dd2 sl1 sl2 k k1 k2 c) ⟨o1, o2, he, hk, hc, show Value.bool c ≠ Value.notImplemented ∧ Q (.bool c) s from ⟨(fun x => nomatch x), h⟩⟩ hu
section
variable {prog : Program} {w : World} {A : Around} {R : Result → Shared → Prop} {I S : Addr} {fp wr : List Addr} {n : Nat} {P : Nat → Value → Prop} {St : Nat → Heap → Prop}
end
section
variable {prog : Program} {w : World} {A : Around} {E : Value → Shared → Prop} {s : Shared}
end
section
variable {X : Cx}
end
end L2
end
section
set_option maxHeartbeats 4000001
namespace Ts
open PySem PyProof.Rows
section
variable {prog : Program} {w : World} {A : Around} {E : Value → Shared → Prop} {s : Shared}
theorem sort_tree {a : Addr} {vs : List Value} {n : Nat} {Pp : Fin → Shared → Prop} (ho : s.heap.get? a = some (seqObj "list" vs.toArray n)) (hz : vs.length ≤ 63) (κ : SortKind) (rv : Value → Int)
    (hkind : ∀ h', (∀ c o, c ≠ a → s.heap.get? c = some o → h'.get? c = some o) → 2 ≤ vs.length → ∀ {Q : SortKind → Shared → Prop} {E : Value → Shared → Prop}, Q κ { s with heap := h' } → wpAny (model prog w) A (keyKind' vs.toArray) Q E { s with heap := h' })
    (hcmp : ∀ h', (∀ c o, c ≠ a → s.heap.get? c = some o → h'.get? c = some o) → Cmp prog w A { s with heap := h' } κ (fun p => p.1 ∈ vs) (fun p => rv p.1))
    (h : ∀ out : List Value, out.Perm vs → out.Pairwise (fun x y => rv x ≤ rv y) → Pp (.done (.ret .none)) { s with heap := sortedHeap s.heap a vs out.toArray }) :
    wpAny (model prog w) A (Builtin.«list.sort» ⟨[.ref a], []⟩) Pp E s := by
  have al : a < s.heap.objs.size := Heap.lt_size ho
  have ln : vs.toArray.size = vs.length := List.size_toArray ..
  have sl : vs.length ≤ sizeLine := Nat.le_trans hz (by decide)
  rw [list_sort_plain]
  refine wpAny_bind (listItems_at ho rfl (wpAny_bind (listUpdate_at ho rfl ?_ (hsz := by rw [ln]; exact sl))))
  obtain ⟨ep, e1⟩ : ∃ ep, (s.heap.update a (Obj.mapSeq fun _ => #[])).get? a = some (seqObj "list" #[] ep) := ⟨_, get?_update_seq ho fun _ => #[]⟩
  refine wpAny_bind (seqEpoch_at e1 rfl (wpAny_bind (wpAny_newTuple (wpAny_bind (wpAny_newList (wpAny_holding ?_))))))
  have e6 : (((s.heap.update a (Obj.mapSeq fun _ => #[])).push (seqObj "tuple" vs.toArray 0)).push (seqObj "list" #[] 0)).get? a = some (seqObj "list" #[] ep) :=
    Heap.get?_push_of_some _ (Heap.get?_push_of_some _ e1)
  have old : ∀ c o, c ≠ a → s.heap.get? c = some o → (((s.heap.update a (Obj.mapSeq fun _ => #[])).push (seqObj "tuple" vs.toArray 0)).push (seqObj "list" #[] 0)).get? c = some o := fun c o nc q =>
    Heap.get?_push_of_some _ (Heap.get?_push_of_some _ ((Heap.get?_update_other _ _ (Ne.symm nc)).trans q))
  show wpAny (model prog w) A _ Pp E { s with heap := ((s.heap.update a (Obj.mapSeq fun _ => #[])).push (seqObj "tuple" vs.toArray 0)).push (seqObj "list" #[] 0) }
  have lo : ∀ out : List Value, out.Perm vs → out.toArray.size ≤ sizeLine + 1 := fun out p1 => by rw [List.size_toArray, p1.length_eq]; lia
  generalize hH : ((s.heap.update a (Obj.mapSeq fun _ => #[])).push (seqObj "tuple" vs.toArray 0)).push (seqObj "list" #[] 0) = h6 at e6 old ⊢
  have back : ∀ out : Array Value, sortedHeap s.heap a vs out = h6.update a (Obj.mapSeq fun _ => out) := fun out => by rw [← hH]; rfl
  by_cases few : vs.toArray.size < 2
  · rw [if_pos few, if_pos few]
    refine wpAny_bind (wpAny_pure (?_ : wpAny _ _ _ _ _ _))
    refine wpAny_bind (wpAny_pure ?_)
    have em : (vs.toArray.zip vs.toArray).map (·.2) = vs.toArray := by
      apply Array.ext'
      rw [Array.toList_map, Array.toList_zip]
      exact List.map_snd_zip (Nat.le_refl _)
    have one : vs.Pairwise (fun x y => rv x ≤ rv y) := by
      match vs, few with
      | [], _ => exact List.Pairwise.nil
      | [x], _ => exact List.pairwise_singleton _ _
      | _ :: _ :: _, z => simp at z; lia
    have k := h vs (List.Perm.refl _) one
    rw [back] at k
    dsimp only
    rw [em]
    refine wpAny_bind (seqEpoch_at e6 rfl (wpAny_bind (listUpdate_at e6 rfl ?_ (hsz := Nat.zero_le _) (hsz2 := lo vs (List.Perm.refl _)))))
    simp only [if_false, bne_self_eq_false, Bool.false_eq_true]
    exact wpAny_pure k
  rw [if_neg few, if_neg few]
  refine wpAny_bind (hkind h6 old (by lia) ?_)
  have C := hcmp h6 old
  refine wpAny_bind (wpAny_mono (runs_ok C (hs := by simp; lia) (a₀ := vs.toArray.zip vs.toArray) (st := SortSt.mk' κ (vs.toArray.zip vs.toArray) #[] 7 none)
    (Q := fun _ st' => Bs κ (fun p => p.1 ∈ vs) (vs.toArray.zip vs.toArray) st' ∧ Up (fun p => rv p.1) (arrOf st') 0 (vs.toArray.zip vs.toArray).size) ⟨rfl, rfl, Array.Perm.refl _, fun p hp => ?_⟩ rfl fun st' b u => ⟨b, u⟩) ?_ fun _ _ e => e)
  · have : (vs.toArray.zip vs.toArray).toList = vs.zip vs := by simp
    rw [this] at hp
    exact (List.of_mem_zip hp).1
  rintro ⟨⟨⟩, st'⟩ s' ⟨rfl, b, u⟩
  have pl : (arrOf st').toList.Perm (vs.zip vs) := by
    have := Array.perm_iff_toList_perm.mp b.perm
    simpa using this
  have same : ∀ p ∈ (arrOf st').toList, p.1 = p.2 := fun p hp => by
    have h1 := pl.mem_iff.mp hp
    obtain ⟨i, hi⟩ := List.mem_iff_getElem?.mp h1
    rw [List.getElem?_zip_eq_some] at hi
    have := hi.1.symm.trans hi.2
    exact Option.some.inj this
  have so : Srt (fun p => rv p.1) (arrOf st').toList := by
    have := srt_of (arr := arrOf st') (lo := 0) (n := (arrOf st').size) (by rw [b.size]; exact u) (by lia)
    rw [Nat.zero_add, cut_of, ← Array.length_toList, List.take_length] at this
    exact this
  have pm : ((arrOf st').toList.map (·.2)).Perm vs := by
    have := pl.map (·.2)
    rwa [List.map_snd_zip (Nat.le_refl _)] at this
  have em : (arrOf st').map (·.2) = ((arrOf st').toList.map (·.2)).toArray := by
    apply Array.ext'; simp
  have k := h _ pm (by
    refine List.pairwise_map.mpr (List.Pairwise.imp_of_mem ?_ so)
    intro x y hx hy le
    rw [← same x hx, ← same y hy]; exact le)
  rw [back] at k
  dsimp only
  rw [em, b.fail]
  refine wpAny_bind (seqEpoch_at e6 rfl (wpAny_bind (listUpdate_at e6 rfl ?_ (hsz := Nat.zero_le _) (hsz2 := lo _ pm))))
  simp only [if_false, bne_self_eq_false, Bool.false_eq_true]
  exact wpAny_pure k
end
end Ts
end
section
set_option maxHeartbeats 4000001
namespace Own
open PySem PySem.Spec PyProof.Rows
abbrev IsZipN (h : Heap) (z TI TO t : Addr) (c : Bool) : Prop := h.get? z = some { cls := .type "zip", dict := none, data := .fields #[rawInt t, .bool c, .bool false, .ref TI, .ref TO], slots := #[] }
section
variable {prog : Program} {w : World} {A : Around} {E : Value → Shared → Prop} {s : Shared} {z TI TO i1 i2 : Addr} {f1 f2 : List Addr} {n1 n2 k : Nat} {P1 P2 : Nat → Value → Prop} {S1 S2 : Nat → Heap → Prop} {a b : Value}
theorem zip_held {α : Type} {t : Addr} {c : Bool} {o : Obj} {f : Bool → Sem α} {Q : α → Shared → Prop} (hz : IsZipN s.heap z TI TO t c) (ho : s.heap.get? t = some o) (h : ∀ h', IsZipN h' z TI TO t true → Heap.SameBut z s.heap h' → wpAny (model prog w) A (f false) Q E { s with heap := h' }) :
    wpAny (model prog w) A (Builtin.SmallTypes.ownedTupleIsFree (.ref z) >>= f) Q E s := by
  refine wpAny_bind ?_; unfold Builtin.SmallTypes.ownedTupleIsFree
  refine rf 0 hz rfl rfl ?_
  show wpAny _ _ (loadIfAlive ((t : Int).toNat) >>= _) _ _ _
  rw [Int.toNat_natCast]
  refine wpAny_bind (PySem.W.kdx_alive ho ?_)
  simp only [Bool.false_eq_true, if_false, Option.isNone_some]
  refine rf (x := .bool c) 1 hz rfl rfl ?_
  have eT : (Value.bool true != Value.bool true) = false := rfl
  have eF : (Value.bool false != Value.bool true) = true := rfl
  cases c with
  | true =>
    rw [eT]
    exact wpAny_pure (h s.heap hz (Heap.SameBut.refl _ _))
  | false =>
    rw [eF]
    exact wpAny_bind (wpAny_setField_rec hz (show 1 < 5 by decide) fun h' z' sb => wpAny_pure (h h' z' sb))
theorem zip_stepN {t : Addr} {c : Bool} {o : Obj} (S : Sep z TI TO i1 i2 f1 f2) (D1 : Draws prog w A i1 f1 n1 P1 S1) (D2 : Draws prog w A i2 f2 n2 P2 S2) {Q : Value → Shared → Prop}
    (hz : IsZipN s.heap z TI TO t c) (ho : s.heap.get? t = some o) (hI : IsPair s.heap TI (.ref i1) (.ref i2)) (d1 : S1 k s.heap) (d2 : S2 k s.heap) (l1 : k < n1) (l2 : k < n2)
    (h : ∀ x y h' tk, P1 k x → P2 k y → IsZipN h' z TI TO t true → S1 (k + 1) h' → S2 (k + 1) h' → IsPair h' s.heap.objs.size x y →
      (∀ c o, c ∉ [z, TO, i1, i2] → s.heap.get? c = some o → h'.get? c = some o) → Q (.ref s.heap.objs.size) { s with heap := h', toks := tk }) :
    wpAny (model prog w) A (Builtin.«zip.__next__» ⟨[.ref z], []⟩) (fun r s' => ∃ v, r = .done (.ret v) ∧ Q v s') E s := by
  have nd := S.all
  simp only [List.nodup_cons, List.mem_cons, List.not_mem_nil, or_false, not_or] at nd
  obtain ⟨⟨zI, zO, z1, z2⟩, ⟨IO, I1, I2⟩, ⟨O1, O2⟩, n12, _⟩ := nd
  refine rf 2 hz rfl rfl (rf 3 hz rfl rfl (wpAny_bind (wpAny_seqItems hI rfl (zip_held hz ho fun ha za sa => ?_))))
  rw [if_neg Bool.false_ne_true]
  refine wpAny_bind ?_
  simp only [List.forIn_toArray, List.forIn_cons, List.forIn_nil]
  refine wpAny_bind (wpAny_bind (wpAny_holding (wpAny_bind (D1.item k _ _ _ l1 (D1.frame _ _ _ d1 fun c hc o e => (sa.2 c fun q => S.z1 (q ▸ hc)).trans e) fun x hb tb px db sb => wpAny_pure (wpAny_pure ?_)))))
  have st2 : S2 k hb := D2.frame _ _ _ d2 fun c hm o e => (sb.2 c fun q => S.o2 (q ▸ hm)).trans ((sa.2 c fun q => S.z2 (q ▸ hm)).trans e)
  refine wpAny_bind (wpAny_bind (wpAny_holding (wpAny_bind (D2.item k _ _ _ l2 st2 fun y hd td py dd sd => wpAny_pure (wpAny_pure (wpAny_pure ?_))))))
  refine wpAny_bind (wpAny_newTuple (wpAny_pure ⟨_, rfl, ?_⟩) (hsz := by show 2 ≤ sizeLine; decide))
  have sz : hd.objs.size = s.heap.objs.size := by rw [sd.1, sb.1, sa.1]
  show Q (.ref hd.objs.size) _
  rw [sz]
  have zd : IsZipN hd z TI TO t true := (sd.2 z z2).trans ((sb.2 z z1).trans za)
  have new : (hd.push { cls := .type "tuple", data := .seq #[x, y] }).get? s.heap.objs.size = some { cls := .type "tuple", data := .seq #[x, y] } := by rw [← sz]; exact Heap.get?_push_size _ rfl
  refine h x y _ td px py (Heap.get?_push_of_some _ zd) ?_ ?_ new fun c o hc e => ?_
  · exact D1.frame _ _ _ db fun c hm o e => Heap.get?_push_of_some _ ((sd.2 c fun q => S.o1 (q ▸ hm)).trans e)
  · exact D2.frame _ _ _ dd fun c hm o e => Heap.get?_push_of_some _ e
  · simp only [List.mem_cons, List.not_mem_nil, or_false, not_or] at hc
    exact Heap.get?_push_of_some _ ((sd.2 c hc.2.2.2).trans ((sb.2 c hc.2.2.1).trans ((sa.2 c hc.1).trans e)))
theorem zip_stopN {t : Addr} {c : Bool} {o : Obj} (S : Sep z TI TO i1 i2 f1 f2) (D1 : Draws prog w A i1 f1 n1 P1 S1) {Q : Fin → Shared → Prop} (hz : IsZipN s.heap z TI TO t c) (ho : s.heap.get? t = some o) (hI : IsPair s.heap TI (.ref i1) (.ref i2)) (d1 : S1 n1 s.heap)
    (h : ∀ h' x, (∀ c o, c ∉ [z, TO, i1, i2] → s.heap.get? c = some o → h'.get? c = some o) → (∃ o, h'.get? x = some o ∧ o.cls = .type "StopIteration") → E (.ref x) { s with heap := h' }) : wpAny (model prog w) A (Builtin.«zip.__next__» ⟨[.ref z], []⟩) Q E s := by
  refine rf 2 hz rfl rfl (rf 3 hz rfl rfl (wpAny_bind (wpAny_seqItems hI rfl (zip_held hz ho fun ha za sa => ?_))))
  rw [if_neg Bool.false_ne_true]
  refine wpAny_bind ?_
  simp only [List.forIn_toArray, List.forIn_cons, List.forIn_nil]
  refine wpAny_bind (wpAny_bind (wpAny_holding (wpAny_bind (D1.done _ _ _ (D1.frame _ _ _ d1 fun c hc o e => (sa.2 c fun q => S.z1 (q ▸ hc)).trans e) fun hb x kb ex => ?_))))
  refine h hb x (fun c o hm e => ?_) ex
  simp only [List.mem_cons, List.not_mem_nil, or_false, not_or] at hm
  exact kb c o hm.2.2.1 ((sa.2 c hm.1).trans e)
end
end Own
end
section
set_option maxHeartbeats 4000001
namespace Own
open PySem PySem.Spec PyProof.Rows
theorem zip_nolen : typeLookup (.type "zip") "__len__" = pure none := by rw [typeLookup_type, builtinLookup_eq_fast]; kernel_rfl
theorem zip_nohint : typeLookup (.type "zip") "__length_hint__" = pure none := by rw [typeLookup_type, builtinLookup_eq_fast]; kernel_rfl
def ZSt (z TI TO i1 i2 : Addr) (S1 S2 : Nat → Heap → Prop) (k : Nat) (acc : Array Value) (h : Heap) : Prop :=
  IsPair h TI (.ref i1) (.ref i2) ∧ S1 k h ∧ S2 k h ∧ ((k = 0 ∧ IsZip h z TI TO .none ∧ ∃ a b, IsPair h TO a b) ∨ (1 ≤ k ∧ ∃ t c, acc[0]? = some (.ref t) ∧ IsZipN h z TI TO t c))
def Kept (far : List Addr) (P1 P2 : Nat → Value → Prop) (acc : Array Value) (h : Heap) : Prop := ∀ j v, acc[j]? = some v → ∃ t x y, v = .ref t ∧ t ∉ far ∧ IsPair h t x y ∧ P1 j x ∧ P2 j y
section
variable {prog : Program} {w : World} {A : Around} {E : Value → Shared → Prop} {s : Shared} {z TI TO i1 i2 L : Addr} {f1 f2 : List Addr} {n n2 k : Nat} {P1 P2 : Nat → Value → Prop} {S1 S2 : Nat → Heap → Prop}
theorem zip_go {acc : Array Value} (S : Sep z TI TO i1 i2 f1 f2) (D1 : Draws prog w A.in1 i1 f1 n P1 S1) (D2 : Draws prog w A.in1 i2 f2 n2 P2 S2) (hle : n ≤ n2) {Q : Option Value → Shared → Prop} (Z : ZSt z TI TO i1 i2 S1 S2 k acc s.heap) (K : Kept [z, TI, TO, i1, i2, L] P1 P2 acc s.heap) (ha : acc.size = k) (hL : L < s.heap.objs.size) (hTO : TO < s.heap.objs.size) (lk : k < n)
    (h : ∀ h' tk x y, P1 k x → P2 k y → IsPair h' s.heap.objs.size x y → ZSt z TI TO i1 i2 S1 S2 (k + 1) (acc.push (.ref s.heap.objs.size)) h' → Kept [z, TI, TO, i1, i2, L] P1 P2 (acc.push (.ref s.heap.objs.size)) h' →
      (∀ c o, c ∉ [z, TO, i1, i2] → s.heap.get? c = some o → h'.get? c = some o) → Q (some (.ref s.heap.objs.size)) { s with heap := h', toks := tk }) : wpAny (model prog w) A (pyNext (.ref z)) Q E s := by
  obtain ⟨hI, d1, d2, st⟩ := Z
  have nd := S.all
  simp only [List.nodup_cons, List.mem_cons, List.not_mem_nil, or_false, not_or] at nd
  obtain ⟨⟨zI, zO, z1, z2⟩, ⟨IO, I1, I2⟩, ⟨O1, O2⟩, n12, _⟩ := nd
  obtain ⟨o1, e1⟩ := D1.live _ _ d1
  obtain ⟨o2, e2⟩ := D2.live _ _ d2
  have old : ∀ h' : Heap, (∀ c o, c ∉ [z, TO, i1, i2] → s.heap.get? c = some o → h'.get? c = some o) → ∀ x y, IsPair h' s.heap.objs.size x y → P1 k x → P2 k y → (∃ oz, s.heap.get? z = some oz) → TO < s.heap.objs.size → Kept [z, TI, TO, i1, i2, L] P1 P2 (acc.push (.ref s.heap.objs.size)) h' := by
    intro h' kk x y new px py ⟨oz, ez⟩ lt j v hv
    by_cases q : j < acc.size
    · rw [Array.getElem?_push_lt q] at hv
      obtain ⟨t, x', y', rfl, nt, ht, p1, p2⟩ := K j v ((getElem?_pos acc j q).trans hv)
      refine ⟨t, x', y', rfl, nt, kk t _ (fun m => nt ?_) ht, p1, p2⟩
      simp only [List.mem_cons, List.not_mem_nil, or_false] at m ⊢
      rcases m with m | m | m | m <;> simp [m]
    · have jl : j < (acc.push (.ref s.heap.objs.size)).size := (Array.getElem?_eq_some_iff.mp hv).1
      rw [Array.size_push] at jl
      obtain rfl : j = acc.size := by lia
      rw [Array.getElem?_push_size] at hv
      obtain rfl := Option.some.inj hv
      refine ⟨_, x, y, rfl, fun m => ?_, new, by rw [ha]; exact px, by rw [ha]; exact py⟩
      simp only [List.mem_cons, List.not_mem_nil, or_false] at m
      have b1 := Heap.lt_size ez
      have b2 := Heap.lt_size hI
      have b3 := Heap.lt_size e1
      have b4 := Heap.lt_size e2
      rcases m with m | m | m | m | m | m
      · exact Nat.ne_of_gt b1 m
      · exact Nat.ne_of_gt b2 m
      · exact Nat.ne_of_gt lt m
      · exact Nat.ne_of_gt b3 m
      · exact Nat.ne_of_gt b4 m
      · exact Nat.ne_of_gt hL m
  have first : ∀ t, acc[0]? = some (Value.ref t) → (acc.push (.ref s.heap.objs.size))[0]? = some (Value.ref t) := fun t e => by
    have q := (Array.getElem?_eq_some_iff.mp e).1
    rw [Array.getElem?_push_lt q]; exact (getElem?_pos acc 0 q).symm.trans e
  rcases st with ⟨rfl, hz, a, b, hO⟩ | ⟨k1, t, c, ht, hz⟩
  · have tyz : s.TypeIs (.ref z) "zip" := ⟨_, hz, rfl⟩
    unfold pyNext
    refine wpAny_bind (wpAny_attempt (wpAny_callSpecial?_slot (name := "__next__") tyz F.slot_zip_next (wpAny_call_entry F.slot_zip_next tyz F.entry_zip_next (zip_step S D1 D2 hz hI hO d1 d2 lk (by lia)
      fun x y h' tk p1 p2 zh Oh s1 s2 new kk => wpAny_pure ?_) (F.args_zip_next_1 _))))
    have acc0 : acc = #[] := Array.size_eq_zero_iff.mp ha
    subst acc0
    exact h h' tk x y p1 p2 new ⟨kk TI _ (by simp [Ne.symm zI, IO, I1, I2]) hI, s1, s2, .inr ⟨by lia, s.heap.objs.size, false, rfl, zh⟩⟩ (old h' kk x y new p1 p2 ⟨_, hz⟩ (Heap.lt_size hO)) kk
  · have tyz : s.TypeIs (.ref z) "zip" := ⟨_, hz, rfl⟩
    obtain ⟨t', x0, y0, et, nt, ht', _, _⟩ := K 0 _ ht
    cases et
    unfold pyNext
    refine wpAny_bind (wpAny_attempt (wpAny_callSpecial?_slot (name := "__next__") tyz F.slot_zip_next (wpAny_call_entry F.slot_zip_next tyz F.entry_zip_next (zip_stepN S D1 D2 hz ht' hI d1 d2 lk (by lia)
      fun x y h' tk p1 p2 zh s1 s2 new kk => wpAny_pure ?_) (F.args_zip_next_1 _))))
    exact h h' tk x y p1 p2 new ⟨kk TI _ (by simp [Ne.symm zI, IO, I1, I2]) hI, s1, s2, .inr ⟨by lia, t, true, first t ht, zh⟩⟩ (old h' kk x y new p1 p2 ⟨_, hz⟩ hTO) kk
theorem zip_fin {acc : Array Value} (S : Sep z TI TO i1 i2 f1 f2) (D1 : Draws prog w A.in1 i1 f1 n P1 S1) {Q : Option Value → Shared → Prop} (Z : ZSt z TI TO i1 i2 S1 S2 n acc s.heap) (K : Kept [z, TI, TO, i1, i2, L] P1 P2 acc s.heap)
    (h : ∀ h', (∀ c o, c ∉ [z, TO, i1, i2] → s.heap.get? c = some o → h'.get? c = some o) → Q none { s with heap := h' }) : wpAny (model prog w) A (pyNext (.ref z)) Q E s := by
  obtain ⟨hI, d1, d2, st⟩ := Z
  rcases st with ⟨rfl, hz, a, b, hO⟩ | ⟨k1, t, c, ht, hz⟩
  · have tyz : s.TypeIs (.ref z) "zip" := ⟨_, hz, rfl⟩
    unfold pyNext
    refine wpAny_bind (wpAny_attempt (wpAny_callSpecial?_slot (name := "__next__") tyz F.slot_zip_next (wpAny_call_entry F.slot_zip_next tyz F.entry_zip_next (zip_stop S D1 hz hI d1 fun h' x kk ⟨o, eo, co⟩ => ?_) (F.args_zip_next_1 _))))
    exact wpAny_bind (wpAny_isInstance (T := "StopIteration") (b := true) ⟨o, eo, co⟩ isSubtype_stop (wpAny_pure (h h' kk)))
  · have tyz : s.TypeIs (.ref z) "zip" := ⟨_, hz, rfl⟩
    obtain ⟨t', x0, y0, et, nt, ht', _, _⟩ := K 0 _ ht
    cases et
    unfold pyNext
    refine wpAny_bind (wpAny_attempt (wpAny_callSpecial?_slot (name := "__next__") tyz F.slot_zip_next (wpAny_call_entry F.slot_zip_next tyz F.entry_zip_next (zip_stopN S D1 hz ht' hI d1 fun h' x kk ⟨o, eo, co⟩ => ?_) (F.args_zip_next_1 _))))
    exact wpAny_bind (wpAny_isInstance (T := "StopIteration") (b := true) ⟨o, eo, co⟩ isSubtype_stop (wpAny_pure (h h' kk)))
theorem ext_zip {res : Value} {R : Result → Shared → Prop} {J : Array Value → Shared → Prop} (S : Sep z TI TO i1 i2 f1 f2) (D1 : Draws prog w A.in1.in1 i1 f1 n P1 S1) (D2 : Draws prog w A.in1.in1 i2 f2 n2 P2 S2) (hle : n ≤ n2) (nL : L ∉ [z, TI, TO, i1, i2] ++ f1 ++ f2) (hn : n ≤ sizeLine)
    (jn : ∀ (acc : Array Value) (s : Shared) (h' : Heap) tk x y, J acc s → L < s.heap.objs.size → P1 acc.size x → P2 acc.size y → IsPair h' s.heap.objs.size x y → (∀ c o, c ∉ [z, TO, i1, i2] → s.heap.get? c = some o → h'.get? c = some o) → J (acc.push (.ref s.heap.objs.size)) { s with heap := h', toks := tk })
    (jf : ∀ (acc : Array Value) (s : Shared) (h' : Heap) tk, J acc s → (∀ c o, c ∉ [z, TO, i1, i2, L] → s.heap.get? c = some o → h'.get? c = some o) → J acc { s with heap := h', toks := tk }) :
    ∀ (m k : Nat) (s : Shared) (acc : Array Value) (c : Nat), k + m = n → acc.size = k → ZSt z TI TO i1 i2 S1 S2 k acc s.heap → Kept [z, TI, TO, i1, i2, L] P1 P2 acc s.heap → s.heap.get? L = some { cls := .type "list", dict := none, data := .seq acc c, slots := #[] } → TO < s.heap.objs.size → J acc s →
      (∀ h' tk acc' c', acc'.size = n → J acc' { s with heap := h', toks := tk } → Kept [z, TI, TO, i1, i2, L] P1 P2 acc' h' → h'.get? L = some { cls := .type "list", dict := none, data := .seq acc' c', slots := #[] } → (∀ b o, b ∉ [z, TO, i1, i2, L] → s.heap.get? b = some o → h'.get? b = some o) → R (.ok (.ret res)) { s with heap := h', toks := tk }) →
      codeAny (model prog w) A (.builtin "list.extend.loop" ⟨[.ref L, .ref z, res], []⟩) R s := by
  simp only [List.mem_append, List.mem_cons, List.not_mem_nil, or_false, not_or] at nL
  obtain ⟨⟨⟨Lz, LI, LO, L1, L2⟩, Lf1⟩, Lf2⟩ := nL
  intro m
  induction m with
  | zero =>
    intro k s acc c km ha Z K hs hTO j0 fin
    obtain rfl : k = n := by lia
    refine codeAny_builtin F.entry_extend_loop (by
      refine Around.under_plainId F.plain_extend_loop _ ▸ (show wpAny _ A.in1 (pyNext (.ref z) >>= _) _ _ _ from wpAny_bind (zip_fin S D1 Z K fun h' kk => ?_))
      refine wpAny_pure (fin h' s.toks acc c ha (jf acc s h' s.toks j0 fun c o hc e => kk c o (fun m => hc (by simp only [List.mem_cons, List.not_mem_nil, or_false] at m ⊢; rcases m with m | m | m | m <;> simp [m])) e) (fun j v hv => ?_) (kk L _ (by simp [Lz, LO, L1, L2]) hs) fun b o hb e => kk b o (fun m => hb ?_) e)
      · obtain ⟨t, x, y, rfl, nt, ht, p1, p2⟩ := K j v hv
        refine ⟨t, x, y, rfl, nt, kk t _ (fun m => nt ?_) ht, p1, p2⟩
        simp only [List.mem_cons, List.not_mem_nil, or_false] at m ⊢
        rcases m with m | m | m | m <;> simp [m]
      · simp only [List.mem_cons, List.not_mem_nil, or_false] at m ⊢
        rcases m with m | m | m | m <;> simp [m])
  | succ m ih =>
    intro k s acc c km ha Z K hs hTO j0 fin
    have Ls := Heap.lt_size hs
    refine codeAny_builtin F.entry_extend_loop (by
      refine Around.under_plainId F.plain_extend_loop _ ▸ (show wpAny _ A.in1 (pyNext (.ref z) >>= _) _ _ _ from wpAny_bind (zip_go (L := L) S D1 D2 hle Z K ha Ls hTO (by lia) fun h1 tk x y px py new Z1 K1 kk => ?_))
      have hs1 := kk L _ (by simp [Lz, LO, L1, L2]) hs
      show wpAny _ A.in1 (updateSeq L (·.push (.ref s.heap.objs.size)) >>= _) _ _ _
      refine wpAny_bind (wpAny_updateSeq hs1 rfl ?_ (hz := by rw [ha]; lia) (_hz' := by rw [Array.size_push, ha]; lia))
      have oth : ∀ b o, b ≠ L → h1.get? b = some o → (h1.update L (Obj.mapSeq (·.push (.ref s.heap.objs.size)))).get? b = some o := fun b o hb e => (Heap.get?_update_other _ _ (Ne.symm hb)).trans e
      obtain ⟨hI, d1, d2, st⟩ := Z1
      have hs2 := Heap.get?_update_self (Obj.mapSeq (·.push (.ref s.heap.objs.size))) hs1 rfl
      refine wpAny_pure ⟨plainId_quiet F.plain_extend_loop _, ih (k + 1) _ (acc.push (.ref s.heap.objs.size)) _ (by lia) (by rw [Array.size_push, ha]) ⟨oth _ _ (Ne.symm LI) hI, D1.frame _ _ _ d1 fun b hb o e => oth b o (fun q => Lf1 (q ▸ hb)) e, D2.frame _ _ _ d2 fun b hb o e => oth b o (fun q => Lf2 (q ▸ hb)) e, ?_⟩ (fun j v hv => ?_) hs2 ?_ (jf _ _ _ tk (jn acc s h1 tk x y j0 Ls (by rw [ha]; exact px) (by rw [ha]; exact py) new kk) fun c o hc e => oth c o (fun q => hc (by simp [q])) e) fun h' tk' acc' c' a1 j1 a2 a3 a4 => fin h' tk' acc' c' a1 j1 a2 a3 fun b o hb e => a4 b o hb ?_⟩
      · rcases st with ⟨q, _⟩ | ⟨q, t, c', e, hz⟩
        · lia
        · exact .inr ⟨q, t, c', e, oth _ _ (Ne.symm Lz) hz⟩
      · obtain ⟨t, x, y, rfl, nt, ht, p1, p2⟩ := K1 j v hv
        exact ⟨t, x, y, rfl, nt, oth t _ (fun q => nt (by simp [q])) ht, p1, p2⟩
      · rw [Heap.size_update]
        obtain ⟨t, x, y, e, _, ht, _, _⟩ := K1 acc.size _ Array.getElem?_push_size
        cases e
        exact Nat.lt_trans hTO (Heap.lt_size ht)
      · simp only [List.mem_cons, List.not_mem_nil, or_false, not_or] at hb
        exact oth b o hb.2.2.2.2 (kk b o (by simp [hb]) e))
theorem gather_zip {Q : List Value → Shared → Prop} {J : Array Value → Shared → Prop} (S : Sep z TI TO i1 i2 f1 f2) (D1 : Draws prog w A.in1.in1 i1 f1 n P1 S1) (D2 : Draws prog w A.in1.in1 i2 f2 n2 P2 S2) (hle : n ≤ n2) (hz : IsZip s.heap z TI TO .none) (hI : IsPair s.heap TI (.ref i1) (.ref i2)) {a b : Value} (hO : IsPair s.heap TO a b) (d1 : S1 0 s.heap) (d2 : S2 0 s.heap)
    (low : ∀ c ∈ f1 ++ f2, c < s.heap.objs.size) (hn : n ≤ sizeLine)
    (jn : ∀ (acc : Array Value) (s' : Shared) (h' : Heap) tk x y, J acc s' → s.heap.objs.size < s'.heap.objs.size → P1 acc.size x → P2 acc.size y → IsPair h' s'.heap.objs.size x y → (∀ c o, c ∉ [z, TO, i1, i2] → s'.heap.get? c = some o → h'.get? c = some o) → J (acc.push (.ref s'.heap.objs.size)) { s' with heap := h', toks := tk })
    (jf : ∀ (acc : Array Value) (s' : Shared) (h' : Heap) tk, J acc s' → (∀ c o, c ∉ [z, TO, i1, i2, s.heap.objs.size] → s'.heap.get? c = some o → h'.get? c = some o) → J acc { s' with heap := h', toks := tk })
    (j0 : J #[] s)
    (h : ∀ h' tk (acc : Array Value), acc.size = n → J acc { s with heap := h', toks := tk } → Kept [z, TI, TO, i1, i2, s.heap.objs.size] P1 P2 acc h' → (∀ b o, b ∉ [z, TO, i1, i2] → s.heap.get? b = some o → h'.get? b = some o) → s.heap.objs.size < h'.objs.size → Q acc.toList { s with heap := h', toks := tk }) : wpAny (model prog w) A (collect (.ref z)) Q E s := by
  obtain ⟨o1, e1⟩ := D1.live _ _ d1
  obtain ⟨o2, e2⟩ := D2.live _ _ d2
  have nL : s.heap.objs.size ∉ [z, TI, TO, i1, i2] ++ f1 ++ f2 := fun m => by
    simp only [List.mem_append, List.mem_cons, List.not_mem_nil, or_false] at m
    rcases m with ((m | m | m | m | m) | m) | m
    · exact Nat.ne_of_gt (Heap.lt_size hz) m
    · exact Nat.ne_of_gt (Heap.lt_size hI) m
    · exact Nat.ne_of_gt (Heap.lt_size hO) m
    · exact Nat.ne_of_gt (Heap.lt_size e1) m
    · exact Nat.ne_of_gt (Heap.lt_size e2) m
    · exact Nat.lt_irrefl _ (low _ (List.mem_append_left _ m))
    · exact Nat.lt_irrefl _ (low _ (List.mem_append_right _ m))
  have p1 : ∀ c o, s.heap.get? c = some o → (s.heap.push (seqObj "list" #[] 0)).get? c = some o := fun c o e => Heap.get?_push_of_some _ e
  have tyz : Shared.TypeIs ({ s with heap := s.heap.push (seqObj "list" #[] 0) } : Shared) (.ref z) "zip" := ⟨_, p1 _ _ hz, rfl⟩
  have new : (s.heap.push (seqObj "list" #[] 0)).get? s.heap.objs.size = some (seqObj "list" #[] 0) := Heap.get?_push_size _ rfl
  unfold collect
  refine wpAny_bind (wpAny_runValue (codeAny_builtin entry_proto_collect' (Around.under_plainId F.plain_proto_collect _ ▸ (wpAny_bind (wpAny_newList (wpAny_pure ⟨Code.quiet_builtin _ (by decide +kernel), codeAny_builtin entry_list_iadd' (Around.under_plainId F.plain_list_iadd _ ▸ ?_)⟩))))))
  show wpAny _ A.in1 (Builtin.List.listExtendWith (.ref s.heap.objs.size) (.ref z) (.ref s.heap.objs.size)) _ _ ({ s with heap := s.heap.push (seqObj "list" #[] 0) } : Shared)
  unfold Builtin.List.listExtendWith; refine wpAny_bind (wpAny_typeOf tyz ?_)
  have no : (Builtin.List.listSameRef (.ref s.heap.objs.size) (.ref z) || Value.type "zip" == Value.type "list" || Value.type "zip" == Value.type "tuple") = false := by
    have : Builtin.List.listSameRef (.ref s.heap.objs.size) (.ref z) = false := by simp [Builtin.List.listSameRef, Nat.ne_of_gt (Heap.lt_size hz)]
    rw [this]; decide
  rw [no, if_neg Bool.false_ne_true]
  refine wpAny_bind (wpAny_pyIter_zip (p1 _ _ hz) (wpAny_bind (wpAny_holding ?_)))
  unfold Builtin.List.listLengthHint; refine wpAny_bind (wpAny_specialOf tyz zip_nolen ?_)
  show wpAny _ A.in1 (specialOf (Value.ref z) (Str.ofString "__length_hint__") >>= _) _ _ _
  refine wpAny_bind (wpAny_specialOf tyz zip_nohint (wpAny_pure ?_))
  refine wpAny_bind (wpAny_rule (wpAny_bind ?_))
  unfold Builtin.List.listTouch Builtin.List.listUpdate; refine wpAny_bind (wpAny_updateSeq new rfl ?_)
  have n2 := Heap.get?_update_self (Obj.mapSeq (·.push Value.none)) new rfl
  refine wpAny_updateSeq n2 rfl ?_
  have n3 := Heap.get?_update_self (Obj.mapSeq (·.pop)) n2 rfl
  have oth : ∀ b o, s.heap.get? b = some o → (((s.heap.push (seqObj "list" #[] 0)).update s.heap.objs.size (Obj.mapSeq (·.push Value.none))).update s.heap.objs.size (Obj.mapSeq (·.pop))).get? b = some o :=
    fun b o e => by
      have hb := Nat.ne_of_gt (Heap.lt_size e)
      exact (Heap.get?_update_other _ _ hb).trans ((Heap.get?_update_other _ _ hb).trans (p1 b o e))
  refine wpAny_pure ⟨plainId_quiet F.plain_extend_loop _, ext_zip (J := J) (L := s.heap.objs.size) S D1 D2 hle nL hn jn jf n 0 _ #[] _ (by lia) rfl ⟨oth _ _ hI, D1.frame _ _ _ d1 fun b _ o e => oth b o e, D2.frame _ _ _ d2 fun b _ o e => oth b o e, .inl ⟨rfl, oth _ _ hz, _, _, oth _ _ hO⟩⟩ (fun j v hv => by simp at hv) n3 ?_ (jf #[] s _ s.toks j0 fun c o _ e => oth c o e) fun h' tk acc' c' a1 j1 a2 a3 a4 => ?_⟩
  · rw [Heap.size_update, Heap.size_update, size_push']
    exact Nat.lt_succ_of_lt (Heap.lt_size hO)
  · refine wpAny_bind (wpAny_load a3 (wpAny_pure (h h' tk acc' a1 j1 a2 (fun b o hb e => a4 b o (fun m => ?_) (oth b o e)) (Heap.lt_size a3))))
    simp only [List.mem_cons, List.not_mem_nil, or_false] at m hb
    rcases m with m | m | m | m | m
    · exact hb (.inl m)
    · exact hb (.inr (.inl m))
    · exact hb (.inr (.inr (.inl m)))
    · exact hb (.inr (.inr (.inr m)))
    · exact Nat.ne_of_gt (Heap.lt_size e) m.symm
theorem with_zip {res : Value} {R : Result → Shared → Prop} {J : Array Value → Shared → Prop} {c0 : Nat} (S : Sep z TI TO i1 i2 f1 f2) (D1 : Draws prog w A.in1.in1 i1 f1 n P1 S1) (D2 : Draws prog w A.in1.in1 i2 f2 n2 P2 S2) (hle : n ≤ n2) (hz : IsZip s.heap z TI TO .none) (hI : IsPair s.heap TI (.ref i1) (.ref i2)) {a b : Value} (hO : IsPair s.heap TO a b) (d1 : S1 0 s.heap) (d2 : S2 0 s.heap)
    (hL : s.heap.get? L = some (seqObj "list" #[] c0)) (nL : L ∉ [z, TI, TO, i1, i2] ++ f1 ++ f2) (hn : n ≤ sizeLine)
    (jn : ∀ (acc : Array Value) (s' : Shared) (h' : Heap) tk x y, J acc s' → L < s'.heap.objs.size → P1 acc.size x → P2 acc.size y → IsPair h' s'.heap.objs.size x y → (∀ c o, c ∉ [z, TO, i1, i2] → s'.heap.get? c = some o → h'.get? c = some o) → J (acc.push (.ref s'.heap.objs.size)) { s' with heap := h', toks := tk })
    (jf : ∀ (acc : Array Value) (s' : Shared) (h' : Heap) tk, J acc s' → (∀ c o, c ∉ [z, TO, i1, i2, L] → s'.heap.get? c = some o → h'.get? c = some o) → J acc { s' with heap := h', toks := tk })
    (j0 : J #[] s)
    (h : ∀ h' tk acc' c', acc'.size = n → J acc' { s with heap := h', toks := tk } → Kept [z, TI, TO, i1, i2, L] P1 P2 acc' h' → h'.get? L = some (seqObj "list" acc' c') → R (.ok (.ret res)) { s with heap := h', toks := tk }) :
    wpAny (model prog w) A.in1 (Builtin.List.listExtendWith (.ref L) (.ref z) res) (fun fin s' => match fin with | .done f => R (.ok f) s' | .again c' => c'.quiet = true ∧ codeAny (model prog w) A c' R s') (fun e s' => R (.error e) s') s := by
  have Lz : L ≠ z := fun q => nL (by simp [q])
  have tyz : s.TypeIs (.ref z) "zip" := ⟨_, hz, rfl⟩
  unfold Builtin.List.listExtendWith; refine wpAny_bind (wpAny_typeOf tyz ?_)
  have no : (Builtin.List.listSameRef (.ref L) (.ref z) || Value.type "zip" == Value.type "list" || Value.type "zip" == Value.type "tuple") = false := by
    have : Builtin.List.listSameRef (.ref L) (.ref z) = false := by simp [Builtin.List.listSameRef, Lz]
    rw [this]; decide
  rw [no, if_neg Bool.false_ne_true]
  refine wpAny_bind (wpAny_pyIter_zip hz (wpAny_bind (wpAny_holding ?_)))
  unfold Builtin.List.listLengthHint; refine wpAny_bind (wpAny_specialOf tyz zip_nolen ?_)
  show wpAny _ A.in1 (specialOf (Value.ref z) (Str.ofString "__length_hint__") >>= _) _ _ _
  refine wpAny_bind (wpAny_specialOf tyz zip_nohint (wpAny_pure ?_))
  refine wpAny_bind (wpAny_rule (wpAny_bind ?_))
  unfold Builtin.List.listTouch Builtin.List.listUpdate; refine wpAny_bind (wpAny_updateSeq hL rfl ?_)
  have m2 := Heap.get?_update_self (Obj.mapSeq (·.push Value.none)) hL rfl
  refine wpAny_updateSeq m2 rfl ?_
  have m3 := Heap.get?_update_self (Obj.mapSeq (·.pop)) m2 rfl
  have oth : ∀ b o, b ≠ L → s.heap.get? b = some o → ((s.heap.update L (Obj.mapSeq (·.push Value.none))).update L (Obj.mapSeq (·.pop))).get? b = some o :=
    fun _ _ away was => (Heap.get?_update_other _ _ (Ne.symm away)).trans ((Heap.get?_update_other _ _ (Ne.symm away)).trans was)
  have ne := fun c (hc : c ∈ [z, TI, TO, i1, i2] ++ f1 ++ f2) => (fun q => nL (q ▸ hc) : c ≠ L)
  refine wpAny_pure ⟨plainId_quiet F.plain_extend_loop _, ext_zip (J := J) (L := L) S D1 D2 hle nL hn jn jf n 0 _ #[] _ (by lia) rfl ⟨oth _ _ (ne TI (by simp)) hI, D1.frame _ _ _ d1 fun b hb o e => oth b o (ne b (by simp [hb])) e, D2.frame _ _ _ d2 fun b hb o e => oth b o (ne b (by simp [hb])) e, .inl ⟨rfl, oth _ _ (ne z (by simp)) hz, _, _, oth _ _ (ne TO (by simp)) hO⟩⟩ (fun j v hv => by simp at hv) m3 ?_ (jf #[] s _ s.toks j0 fun c o hc e => oth c o (fun q => hc (by simp [q])) e) fun h' tk acc' c' a1 j1 a2 a3 a4 => h h' tk acc' c' a1 j1 a2 a3⟩
  rw [Heap.size_update, Heap.size_update]
  exact Heap.lt_size hO
theorem list_zip {Q : Value → Shared → Prop} {J : Array Value → Shared → Prop} (S : Sep z TI TO i1 i2 f1 f2) (D1 : Draws prog w A.in1.in1.in1 i1 f1 n P1 S1) (D2 : Draws prog w A.in1.in1.in1 i2 f2 n2 P2 S2) (hle : n ≤ n2) (hz : IsZip s.heap z TI TO .none) (hI : IsPair s.heap TI (.ref i1) (.ref i2)) {a b : Value} (hO : IsPair s.heap TO a b) (d1 : S1 0 s.heap) (d2 : S2 0 s.heap)
    (low : ∀ c ∈ f1 ++ f2, c < s.heap.objs.size) (hn : n ≤ sizeLine)
    (jn : ∀ (acc : Array Value) (s' : Shared) (h' : Heap) tk x y, J acc s' → s.heap.objs.size < s'.heap.objs.size → P1 acc.size x → P2 acc.size y → IsPair h' s'.heap.objs.size x y → (∀ c o, c ∉ [z, TO, i1, i2] → s'.heap.get? c = some o → h'.get? c = some o) → J (acc.push (.ref s'.heap.objs.size)) { s' with heap := h', toks := tk })
    (jf : ∀ (acc : Array Value) (s' : Shared) (h' : Heap) tk, J acc s' → (∀ c o, c ∉ [z, TO, i1, i2, s.heap.objs.size] → s'.heap.get? c = some o → h'.get? c = some o) → J acc { s' with heap := h', toks := tk })
    (j0 : J #[] s)
    (h : ∀ h' tk acc' c', acc'.size = n → J acc' { s with heap := h', toks := tk } → Kept [z, TI, TO, i1, i2, s.heap.objs.size] P1 P2 acc' h' → h'.get? s.heap.objs.size = some (seqObj "list" acc' c') → Q (.ref s.heap.objs.size) { s with heap := h', toks := tk }) : wpAny (model prog w) A (call (.type "list") [.ref z]) Q E s := by
  obtain ⟨o1, e1⟩ := D1.live _ _ d1
  obtain ⟨o2, e2⟩ := D2.live _ _ d2
  have nL : s.heap.objs.size ∉ [z, TI, TO, i1, i2] ++ f1 ++ f2 := fun m => by
    simp only [List.mem_append, List.mem_cons, List.not_mem_nil, or_false] at m
    rcases m with ((m | m | m | m | m) | m) | m
    · exact Nat.ne_of_gt (Heap.lt_size hz) m
    · exact Nat.ne_of_gt (Heap.lt_size hI) m
    · exact Nat.ne_of_gt (Heap.lt_size hO) m
    · exact Nat.ne_of_gt (Heap.lt_size e1) m
    · exact Nat.ne_of_gt (Heap.lt_size e2) m
    · exact Nat.lt_irrefl _ (low _ (List.mem_append_left _ m))
    · exact Nat.lt_irrefl _ (low _ (List.mem_append_right _ m))
  refine callType_codes (Q₁ := fun obj t => obj = .ref s.heap.objs.size ∧ t = { s with heap := s.heap.push (seqObj "list" #[] 0) }) F.called_list (F.typeCall_list_1 _) F.entry_list_init (code_list_new _ ⟨rfl, rfl⟩) fun obj t ht => ?_
  obtain ⟨rfl, rfl⟩ := ht
  have new : (s.heap.push (seqObj "list" #[] 0)).get? s.heap.objs.size = some (seqObj "list" #[] 0) := Heap.get?_push_size _ rfl
  have old : ∀ c o, s.heap.get? c = some o → ((s.heap.push (seqObj "list" #[] 0)).update s.heap.objs.size (Obj.mapSeq (fun _ => (#[] : Array Value)))).get? c = some o := fun c o e => (Heap.get?_update_other _ _ (Nat.ne_of_gt (Heap.lt_size e))).trans (Heap.get?_push_of_some _ e)
  have m2 := Heap.get?_update_self (Obj.mapSeq (fun _ => (#[] : Array Value))) new rfl
  refine ⟨⟨_, new, rfl⟩, F.args_list_init_2 _ _, ?_⟩
  show wpAny _ _ (do let was ← Builtin.List.listItems (.ref s.heap.objs.size); Builtin.List.listUpdate (.ref s.heap.objs.size) (fun _ => #[]); letGo was.toList.reverse; Builtin.List.listExtendWith (.ref s.heap.objs.size) (.ref z) .none) _ _ _
  refine wpAny_bind (m := Builtin.List.listItems _) ?_
  unfold Builtin.List.listItems; refine wpAny_bind (wpAny_seqItems new rfl (wpAny_pure ?_))
  refine wpAny_bind (m := updateSeq _ _) (wpAny_updateSeq new rfl (wpAny_bind (wpAny_letGo ?_)))
  refine with_zip (A := A.in1) (J := J) (L := s.heap.objs.size) S D1 D2 hle (old _ _ hz) (old _ _ hI) (old _ _ hO) (D1.frame _ _ _ d1 fun c _ o e => old c o e) (D2.frame _ _ _ d2 fun c _ o e => old c o e) m2 nL hn jn jf (jf #[] s _ s.toks j0 fun c o _ e => old c o e) fun h' tk acc' c' a1 j1 a2 a3 => ?_
  exact ⟨rfl, h h' tk acc' c' a1 j1 a2 a3⟩
end
end Own
end
section
set_option maxHeartbeats 4000001
namespace Own
open PySem PySem.Spec PyProof.Rows Ts
section
variable {prog : Program} {w : World} {A : Around} {E : Value → Shared → Prop} {s : Shared}
theorem sortedC {x : Value} {Q : Value → Shared → Prop}
    (h : wpAny (model prog w) A.in1 (collect x) (fun vs s1 => ∃ (κ : SortKind) (rv : Value → Int), vs.length ≤ 63 ∧
      (∀ h' : Heap, (∀ c o, s1.heap.get? c = some o → h'.get? c = some o) → 2 ≤ vs.length → ∀ (A' : Around) {Q : SortKind → Shared → Prop} {E : Value → Shared → Prop}, Q κ { s1 with heap := h' } → wpAny (model prog w) A' (keyKind' vs.toArray) Q E { s1 with heap := h' }) ∧
      (∀ h' : Heap, (∀ c o, s1.heap.get? c = some o → h'.get? c = some o) → ∀ (A' : Around), A'.units ≤ A.units + 8 → Cmp prog w A' { s1 with heap := h' } κ (fun p => p.1 ∈ vs) (fun p => rv p.1)) ∧
      ∀ (h' : Heap) (l : Addr) (e : Nat) (out : List Value), s1.heap.objs.size ≤ l → h'.get? l = some (seqObj "list" out.toArray e) → out.Perm vs → out.Pairwise (fun x y => rv x ≤ rv y) → (∀ c o, s1.heap.get? c = some o → h'.get? c = some o) → Q (.ref l) { s1 with heap := h' }) E s) :
    wpAny (model prog w) A (call (.builtin "sorted") [x]) Q E s := by
  refine Calls.call_function_entry kind_sorted plain_sorted entry_sorted (args_sorted1 _) ?_; unfold Builtin.«sorted»
  refine wpAny_bind (m := checkCount "sorted" 1 1 _) (wpAny_pure (wpAny_bind (wpAny_mono h (fun vs s1 z => ?_) fun _ _ e => e)))
  obtain ⟨κ, rv, hz, hk, hc, fin⟩ := z
  have sl : vs.length ≤ sizeLine := Nat.le_trans hz (by decide)
  refine wpAny_bind (wpAny_newList ?_ (hsz := sl))
  have new : (s1.heap.push (seqObj "list" vs.toArray 0)).get? s1.heap.objs.size = some (seqObj "list" vs.toArray 0) := Heap.get?_push_size _ rfl
  have up : ∀ h' : Heap, (∀ c o, c ≠ s1.heap.objs.size → (s1.heap.push (seqObj "list" vs.toArray 0)).get? c = some o → h'.get? c = some o) → ∀ c o, s1.heap.get? c = some o → h'.get? c = some o := fun h' k c o e => k c o (Nat.ne_of_lt (Heap.lt_size e)) (Heap.get?_push_of_some _ e)
  refine wpAny_bind (wpAny_holding (wpAny_call_entry slot_list_sort ⟨_, new, rfl⟩ entry_list_sort (sort_tree new hz κ rv (fun h' k l2 => hk h' (up h' k) l2 _) (fun h' k => hc h' (up h' k) _ ?_) fun out p1 p2 => ⟨_, rfl, ?_⟩) (args_list_sort _)))
  · show A.units + 1 + 1 ≤ A.units + 8
    lia
  obtain ⟨e, he⟩ := sortedHeap_at (out := out.toArray) new
  refine wpAny_pure ⟨_, rfl, fin _ _ e out (Nat.le_refl _) he p1 p2 fun c o q => ?_⟩
  have lt := Heap.lt_size q
  rw [sortedHeap_old (Nat.ne_of_lt lt) (by rw [size_push']; exact Nat.lt_succ_of_lt lt)]
  exact Heap.get?_push_of_some _ q
end
end Own
namespace L2
open PySem PySem.Spec PyProof.Rows Own Ts
inductive Lx (H : Hp) : Nat → V → V → Ordering → Prop where
  | int (n : Nat) (i j : Int) : Lx H n (.int i) (.int j) (compare i j)
  | row {n : Nat} {a b : Addr} {xs ys : List V} {cs : List Ordering} (ha : H a = some (.tup xs)) (hb : H b = some (.tup ys)) (l1 : xs.length = cs.length) (l2 : ys.length = cs.length) (h : ∀ (i : Nat) u v c, xs[i]? = some u → ys[i]? = some v → cs[i]? = some c → Lx H n u v c) :
      Lx H (n + 1) (.ref a) (.ref b) (cs.foldr Ordering.then .eq)
theorem Lx.pair {H : Hp} {n : Nat} {a b : Addr} {x1 x2 y1 y2 : V} {c1 c2 : Ordering} (ha : H a = some (.tup [x1, x2])) (hb : H b = some (.tup [y1, y2])) (h1 : Lx H n x1 y1 c1) (h2 : Lx H n x2 y2 c2) : Lx H (n + 1) (.ref a) (.ref b) (c1.then c2) := by
  have e : c1.then c2 = [c1, c2].foldr Ordering.then .eq := by cases c1 <;> cases c2 <;> rfl
  rw [e]
  refine .row ha hb rfl rfl fun i u v c hu hv hc => ?_
  rcases i with _ | _ | i
  · cases hu; cases hv; cases hc; exact h1
  · cases hu; cases hv; cases hc; exact h2
  · simp at hu
theorem then_eq : ∀ {cs : List Ordering}, cs.foldr Ordering.then .eq = .eq ↔ ∀ c ∈ cs, c = .eq
  | [] => by simp
  | c :: cs => by
    rw [List.foldr_cons]
    constructor
    · intro h
      cases c <;> simp [Ordering.then] at h
      intro d hd
      rcases List.mem_cons.mp hd with rfl | hd2
      · rfl
      · exact then_eq.mp h d hd2
    · intro h
      rw [h c List.mem_cons_self]
      exact then_eq.mpr fun d hd => h d (List.mem_cons_of_mem _ hd)
theorem then_ne : ∀ {cs : List Ordering}, cs.foldr Ordering.then .eq ≠ .eq → ∃ (k : Nat) (c : Ordering), cs[k]? = some c ∧ c ≠ .eq ∧ cs.foldr Ordering.then .eq = c ∧ ∀ j : Nat, j < k → cs[j]? = some Ordering.eq
  | [], h => absurd rfl h
  | c :: cs, h => by
    by_cases z : c = .eq
    · subst z
      have e : (Ordering.eq :: cs).foldr Ordering.then .eq = cs.foldr Ordering.then .eq := rfl
      rw [e] at h ⊢
      obtain ⟨k, d, h1, h2, h3, h4⟩ := then_ne h
      refine ⟨k + 1, d, by simpa using h1, h2, h3, fun j hj => ?_⟩
      cases j with
      | zero => rfl
      | succ j => simpa using h4 j (by lia)
    · refine ⟨0, c, rfl, z, ?_, fun j hj => by lia⟩
      rw [List.foldr_cons]
      cases c <;> first | rfl | exact absurd rfl z
section
variable {X : Cx}
theorem ord_int (i j : Int) : (compare i j == .eq) = decide (i = j) ∧ (compare i j == .lt) = decide (i < j) := by
  rw [show compare i j = compareOfLessAndEq i j from rfl]
  unfold compareOfLessAndEq
  by_cases h1 : i < j
  · rw [if_pos h1, decide_eq_true h1, decide_eq_false (by lia)]; exact ⟨rfl, rfl⟩
  · rw [if_neg h1, decide_eq_false h1]
    by_cases h2 : i = j
    · rw [if_pos h2, decide_eq_true h2]; exact ⟨rfl, rfl⟩
    · rw [if_neg h2, decide_eq_false h2]; exact ⟨rfl, rfl⟩
theorem Lx.refl {H : Hp} {n : Nat} {x y : V} {c : Ordering} (h : Lx H n x y c) : x = y → c = .eq := by
  induction h with
  | int n i j =>
    intro e
    cases e
    have := (ord_int i i).1
    rw [decide_eq_true rfl] at this
    simpa using this
  | @row n a b xs ys cs ha hb l1 l2 h ih =>
    intro e
    cases e
    rw [ha] at hb
    cases hb
    refine then_eq.mpr fun c hc => ?_
    obtain ⟨i, hi⟩ := List.mem_iff_getElem?.mp hc
    have il := (List.getElem?_eq_some_iff.mp hi).1
    exact ih i _ _ c (List.getElem?_eq_getElem (by lia)) (List.getElem?_eq_getElem (by lia)) hi rfl
theorem lx_eq {pins : List (Addr × Obj)} {σ : St} {H : Hp} {s : Shared} (I : Inv X pins σ H s) {n : Nat} {x y : V} {c : Ordering} (h : Lx H n x y c) : ∀ (A : Around) (u v : Value), A.units + n < cLine → RelV x u → RelV y v → SeqAt.EqAt A s u v (c == .eq) := by
  induction h with
  | int n i j =>
    intro A u v _ r1 r2
    have := eqAt_V (A := A) (s := s) (x := .int j) (y := .int i) r1 r2 rfl rfl
    rw [(ord_int i j).1]
    have e : eqV (.int i) (.int j) = decide (i = j) := by
      show (i == j) = decide (i = j)
      by_cases z : i = j <;> simp [z]
    rwa [e] at this
  | @row n a b xs ys cs ha hb l1 l2 h ih =>
    intro A u v hu r1 r2
    cases r1; cases r2
    by_cases ab : a = b
    · subst ab
      have : cs.foldr Ordering.then .eq = .eq := Lx.refl (.row ha hb l1 l2 h) rfl
      rw [this]; exact SeqAt.EqAt.same _
    · obtain ⟨its, g1, p1, _⟩ := I.tuple (SqT.of ha)
      obtain ⟨jts, g2, p2, _⟩ := I.tuple (SqT.of hb)
      have m1 := g1.length
      have m2 := g2.length
      refine SeqAt.EqAt.of_refs ab ?_
      have e : ((List.range (min its.toArray.size jts.toArray.size)).all (fun j => (cs.getD j .eq) == .eq) && its.toArray.size == jts.toArray.size) = (cs.foldr Ordering.then .eq == .eq) := by
        rw [List.size_toArray, List.size_toArray, ← m1, ← m2, l1, l2, beq_self_eq_true, Bool.and_true, Nat.min_self]
        by_cases z : cs.foldr Ordering.then .eq = .eq
        · rw [z]
          refine (List.all_eq_true.mpr fun j hj => ?_).trans rfl
          have jl := List.mem_range.mp hj
          rw [List.getD_eq_getElem?_getD, List.getElem?_eq_getElem jl, Option.getD_some, then_eq.mp z _ (List.getElem_mem jl)]; rfl
        · obtain ⟨k, d, h1, h2, h3, _⟩ := then_ne z
          have kl := (List.getElem?_eq_some_iff.mp h1).1
          rw [h3]
          have f1 : (d == Ordering.eq) = false := by simpa using h2
          rw [f1]
          refine Bool.eq_false_iff.mpr fun t => ?_
          have := List.all_eq_true.mp t k (List.mem_range.mpr kl)
          rw [List.getD_eq_getElem?_getD, h1, Option.getD_some, f1] at this
          cases this
      have := SeqAt.RcAt.tuples (e := fun j => (cs.getD j .eq) == .eq) p1 p2 (A := A) (s := s) (by lia) (fun j k1 k2 => ?_)
      · rwa [e] at this
      · have k1' : j < xs.length := by simpa [m1] using k1
        have k2' : j < ys.length := by simpa [m2] using k2
        obtain ⟨w1, e1, q1⟩ := g1.get (List.getElem?_eq_getElem k1')
        obtain ⟨w2, e2, q2⟩ := g2.get (List.getElem?_eq_getElem k2')
        have z1 : its.toArray[j] = w1 := by simpa using (List.getElem?_eq_some_iff.mp e1).2
        have z2 : jts.toArray[j] = w2 := by simpa using (List.getElem?_eq_some_iff.mp e2).2
        have kc : j < cs.length := by lia
        rw [z1, z2, List.getD_eq_getElem?_getD, List.getElem?_eq_getElem kc, Option.getD_some]
        exact ih j _ _ _ (List.getElem?_eq_getElem k1') (List.getElem?_eq_getElem k2') (List.getElem?_eq_getElem kc) A.in1 _ _ (by show A.units + 1 + n < cLine; lia) q1 q2
theorem lx_lt {pins : List (Addr × Obj)} {σ : St} {H : Hp} {s : Shared} (I : Inv X pins σ H s) {n : Nat} {x y : V} {c : Ordering} (h : Lx H n x y c) : c ≠ .eq → ∀ (A : Around) (u v : Value), A.units + n < cLine → RelV x u → RelV y v → LtAt A s u v (c == .lt) := by
  induction h with
  | int n i j =>
    intro _ A u v _ ⟨t1, e1⟩ ⟨t2, e2⟩
    subst e1 e2
    rw [(ord_int i j).2]
    exact LtAt.ints i j t1 t2
  | @row n a b xs ys cs ha hb l1 l2 h ih =>
    intro ne A u v hu r1 r2
    cases r1; cases r2
    obtain ⟨its, g1, p1, _⟩ := I.tuple (SqT.of ha)
    obtain ⟨jts, g2, p2, _⟩ := I.tuple (SqT.of hb)
    have m1 := g1.length
    have m2 := g2.length
    obtain ⟨k, d, h1, h2, h3, h4⟩ := then_ne ne
    have kl := (List.getElem?_eq_some_iff.mp h1).1
    have at_ : ∀ j (k1 : j < its.toArray.size) (k2 : j < jts.toArray.size), ∃ (j1 : j < xs.length) (j2 : j < ys.length), RelV xs[j] its.toArray[j] ∧ RelV ys[j] jts.toArray[j] := fun j k1 k2 => by
      have k1' : j < xs.length := by simpa [m1] using k1
      have k2' : j < ys.length := by simpa [m2] using k2
      obtain ⟨w1, e1, q1⟩ := g1.get (List.getElem?_eq_getElem k1')
      obtain ⟨w2, e2, q2⟩ := g2.get (List.getElem?_eq_getElem k2')
      have z1 : its.toArray[j] = w1 := by simpa using (List.getElem?_eq_some_iff.mp e1).2
      have z2 : jts.toArray[j] = w2 := by simpa using (List.getElem?_eq_some_iff.mp e2).2
      rw [z1, z2]
      exact ⟨k1', k2', q1, q2⟩
    rw [h3]
    have b1 : k < its.toArray.size := by rw [List.size_toArray]; lia
    have b2 : k < jts.toArray.size := by rw [List.size_toArray]; lia
    obtain ⟨j1, j2, r1, r2⟩ := at_ k b1 b2
    refine LtAt.tuples (k := k) p1 p2 (by lia) b1 b2 (fun j k1 k2 hj => ?_) ?_ ?_
    · obtain ⟨j1, j2, r1, r2⟩ := at_ j k1 k2
      exact lx_eq I (h j _ _ _ (List.getElem?_eq_getElem j1) (List.getElem?_eq_getElem j2) (h4 j hj)) A.in1 _ _ (by show A.units + 1 + n < cLine; lia) r1 r2
    · have := lx_eq I (h k _ _ _ (List.getElem?_eq_getElem j1) (List.getElem?_eq_getElem j2) h1) A.in1 _ _ (by show A.units + 1 + n < cLine; lia) r1 r2
      rwa [show (d == Ordering.eq) = false from by simpa using h2] at this
    · exact ih k _ _ _ (List.getElem?_eq_getElem j1) (List.getElem?_eq_getElem j2) h1 h2 A.in1 _ _ (by show A.units + 1 + n < cLine; lia) r1 r2
end
end L2
end
section
set_option maxHeartbeats 4000001
namespace L2
open PySem PySem.Spec PyProof.Rows Own Ts
def Rk (H : Hp) (xs : List V) (rk : V → Int) : Prop := (∀ x ∈ xs, ∃ i, x = .int i ∧ rk x = i) ∨ ∃ n, n ≤ 20 ∧ ∀ x ∈ xs, (∃ a f r, x = .ref a ∧ H a = some (.tup (.int f :: r))) ∧ ∀ y ∈ xs, Lx H n x y (compare (rk x) (rk y))
def vOf : Value → V
  | .int i _ => .int i
  | .ref a => .ref a
  | _ => .non
theorem vals_of : ∀ {xs : List V} {us : List Value}, Vals xs us → (∀ x ∈ xs, (∃ i, x = .int i) ∨ ∃ a, x = .ref a) → xs = us.map vOf ∧ ∀ u ∈ us, RelV (vOf u) u
  | _, _, .nil, _ => ⟨rfl, fun u hu => by simp at hu⟩
  | x :: xs, u :: us, .cons r rs, h => by
    obtain ⟨e, f⟩ := vals_of rs fun y hy => h y (List.mem_cons_of_mem _ hy)
    have one : vOf u = x ∧ RelV (vOf u) u := by
      rcases h x List.mem_cons_self with ⟨i, rfl⟩ | ⟨a, rfl⟩
      · obtain ⟨t, rfl⟩ := r; exact ⟨rfl, t, rfl⟩
      · cases r; exact ⟨rfl, rfl⟩
    refine ⟨by rw [List.map_cons, one.1, ← e], fun v hv => ?_⟩
    rcases List.mem_cons.mp hv with rfl | hv2
    · exact one.2
    · exact f v hv2
theorem vals_back : ∀ {us : List Value}, (∀ u ∈ us, RelV (vOf u) u) → Vals (us.map vOf) us
  | [], _ => .nil
  | u :: us, h => .cons (h u List.mem_cons_self) (vals_back fun v hv => h v (List.mem_cons_of_mem _ hv))
theorem Rk.kinds {H : Hp} {xs : List V} {rk : V → Int} (h : Rk H xs rk) : ∀ x ∈ xs, (∃ i, x = .int i) ∨ ∃ a, x = .ref a := fun x hx => by
  rcases h with h | ⟨n, _, h⟩
  · obtain ⟨i, e, _⟩ := h x hx; exact .inl ⟨i, e⟩
  · obtain ⟨⟨a, _, _, e, _⟩, _⟩ := h x hx; exact .inr ⟨a, e⟩
section
variable {prog : Program} {w : World} {A : Around} {E : Value → Shared → Prop} {s : Shared}
theorem one_less {u v : Value} {b : Bool} {Q : Bool → Shared → Prop} (l : LtAt A s u v b) (h : Q b s) : wpAny (model prog w) A (oneLt' false u v) Q E s := by
  rw [oneLt'_eq, if_neg Bool.false_ne_true]
  exact wpAny_bind (l prog w _ _ (wpAny_truthy_bool h))
theorem kat_row {Q : Bool → Shared → Prop} (cs : List Ordering) : ∀ (us vs : List Value) (i : Nat), us.length = cs.length → vs.length = cs.length → (∀ (j : Nat) u v c, us[j]? = some u → vs[j]? = some v → cs[j]? = some c → SeqAt.EqAt A s u v (c == .eq) ∧ (c ≠ .eq → LtAt A s u v (c == .lt))) →
    (i = 0 → ∀ u v c, us[0]? = some u → vs[0]? = some v → cs[0]? = some c → ∃ a b t t', u = .int a t ∧ v = .int b t' ∧ c = compare a b) → Q (cs.foldr Ordering.then .eq == .lt) s → PySem.W.KatLex prog w A true false Q (us.zip vs) i s := by
  induction cs with
  | nil =>
    intro us vs i l1 l2 _ _ q
    rw [List.length_eq_zero_iff.mp l1]
    exact PySem.W.kat_nil q
  | cons c cs ih =>
    intro us vs i l1 l2 h h0 q
    obtain ⟨u, us, rfl⟩ : ∃ u us', us = u :: us' := by
      cases us with
      | nil => simp at l1
      | cons u us => exact ⟨u, us, rfl⟩
    obtain ⟨v, vs, rfl⟩ : ∃ v vs', vs = v :: vs' := by
      cases vs with
      | nil => simp at l2
      | cons v vs => exact ⟨v, vs, rfl⟩
    have hh := h 0 u v c rfl rfl rfl
    refine PySem.W.kat_cons (hh.1 prog w _ _ ?_)
    by_cases z : c = .eq
    · subst z
      refine PySem.W.kat_yes (ih us vs (i + 1) (by simpa using l1) (by simpa using l2) (fun j u v c a1 a2 a3 => h (j + 1) u v c (by simpa using a1) (by simpa using a2) (by simpa using a3)) (fun e => by lia) q)
    · have e1 : (c == Ordering.eq) = false := by simpa using z
      have e2 : (c :: cs).foldr Ordering.then .eq = c := by
        rw [List.foldr_cons]
        cases c <;> first | rfl | exact absurd rfl z
      rw [e2] at q
      rw [e1]
      refine PySem.W.kat_no ?_
      by_cases i0 : i = 0
      · obtain ⟨a, b, t, t', rfl, rfl, ec⟩ := h0 i0 u v c rfl rfl rfl
        subst i0
        rw [ec, (ord_int a b).2] at q
        exact oneLt_int q
      · have : (true && i == 0) = false := by simpa using i0
        rw [this]
        exact one_less (hh.2 z) q
end
section
variable {X : Cx}
theorem asks {pins : List (Addr × Obj)} {σ : St} {H : Hp} {s1 : Shared} (I : Inv X pins σ H s1) (hu : X.A.units + 64 < cLine) {xs : List V} {vs : List Value} {rk : V → Int} (r : Vals xs vs) (R : Rk H xs rk) :
    ∃ κ : SortKind, (∀ h' : Heap, (∀ c o, s1.heap.get? c = some o → h'.get? c = some o) → 2 ≤ vs.length → ∀ (A' : Around) {Q : SortKind → Shared → Prop} {E : Value → Shared → Prop}, Q κ { s1 with heap := h' } → wpAny (model X.prog X.w) A' (keyKind' vs.toArray) Q E { s1 with heap := h' }) ∧
      (∀ h' : Heap, (∀ c o, s1.heap.get? c = some o → h'.get? c = some o) → ∀ (A' : Around), A'.units ≤ X.A.units + 8 → Cmp X.prog X.w A' { s1 with heap := h' } κ (fun p => p.1 ∈ vs) (fun p => rk (vOf p.1))) := by
  obtain ⟨ex, rel⟩ := vals_of r R.kinds
  have mem : ∀ u ∈ vs, vOf u ∈ xs := fun u hu => by rw [ex]; exact List.mem_map.mpr ⟨u, hu, rfl⟩
  rcases R with R | ⟨n, hn, R⟩
  · have nms : ∀ u ∈ vs, ∃ i t, u = .int i t ∧ rk (vOf u) = i := fun u hu => by
      obtain ⟨i, e, ei⟩ := R _ (mem u hu)
      have ru := rel u hu
      rw [e] at ru
      obtain ⟨t, rfl⟩ := ru
      exact ⟨i, t, rfl, ei⟩
    refine ⟨oneType', fun h' k l2 A' Q E q => PySem.W.kas_kind l2 (T := .type "int") (fun v hv => ?_) (by decide) (by decide) q, fun h' k A' _ => ⟨fun x y hx hy Q E q => ?_⟩⟩
    · obtain ⟨i, t, rfl, _⟩ := nms v hv
      exact PySem.W.Looks.of_pure rfl
    · obtain ⟨x1, x2⟩ := x
      obtain ⟨y1, y2⟩ := y
      obtain ⟨i, t, e1, r1⟩ := nms x1 hx
      obtain ⟨j, t', e2, r2⟩ := nms y1 hy
      simp only at q
      rw [r1, r2] at q
      subst e1 e2
      show wpAny _ _ (keyLt' oneType' (.int i t) (.int j t')) _ _ _
      rw [keyLt'_oneType]
      exact oneLt_int q
  · refine ⟨tuples' (Value.type "int" != Value.type "tuple"), fun h' k l2 A' Q E q => ?_, fun h' k A' hA => ⟨fun x y hx hy Q E q => ?_⟩⟩
    · have I' : Inv X pins σ H { s1 with heap := h', toks := s1.toks } := I.kept k
      have kt : ∀ us : List Value, (∀ u ∈ us, vOf u ∈ xs ∧ RelV (vOf u) u) → ∃ fs, PySem.W.KatTups h' us fs ∧ fs.length = us.length ∧ ∀ f ∈ fs, ∃ i t, f = Value.int i t := by
        intro us
        induction us with
        | nil => intro _; exact ⟨[], PySem.W.KatTups.nil, rfl, fun f hf => by simp at hf⟩
        | cons u us ih =>
          intro h
          obtain ⟨fs, k1, k2, k3⟩ := ih fun v hv => h v (List.mem_cons_of_mem _ hv)
          obtain ⟨m1, r1⟩ := h u List.mem_cons_self
          obtain ⟨⟨a, f, rr, e, ha⟩, _⟩ := R _ m1
          rw [e] at r1
          cases r1
          obtain ⟨its, g, ⟨o, eo, co, no, dt⟩, _⟩ := I'.tuple (SqT.of ha)
          obtain ⟨f0, ef, ⟨t0, rfl⟩⟩ := g.get (i := 0) (x := .int f) rfl
          exact ⟨_, PySem.W.KatTups.cons eo co dt (by simpa using ef) k1, by rw [List.length_cons, List.length_cons, k2], fun f' hf => by
            rcases List.mem_cons.mp hf with rfl | hf
            · exact ⟨_, _, rfl⟩
            · exact k3 f' hf⟩
      obtain ⟨fs, k1, k2, k3⟩ := kt vs fun u hu => ⟨mem u hu, rel u hu⟩
      refine PySem.W.kat_kind (T := .type "int") k1 (by lia) (fun v hv => ?_) (by decide) q
      obtain ⟨i, t, rfl⟩ := k3 v hv
      exact PySem.W.Looks.of_pure rfl
    · have I' : Inv X pins σ H { s1 with heap := h', toks := s1.toks } := I.kept k
      obtain ⟨x1, x2⟩ := x
      obtain ⟨y1, y2⟩ := y
      have rx := rel x1 hx
      have ry := rel y1 hy
      obtain ⟨⟨a, f, xr, ea, ha⟩, lx⟩ := R _ (mem x1 hx)
      obtain ⟨⟨b, g, yr, eb, hb⟩, _⟩ := R _ (mem y1 hy)
      have L := lx _ (mem y1 hy)
      simp only at q
      rw [ea] at rx L q
      rw [eb] at ry L q
      cases rx; cases ry
      generalize hc : compare (rk (V.ref a)) (rk (V.ref b)) = c at L
      rw [← (ord_int (rk (V.ref a)) (rk (V.ref b))).2, hc] at q
      cases L with
      | @row n _ _ xs' ys' cs ha' hb' l1 l2 hL =>
        rw [ha] at ha'; cases ha'
        rw [hb] at hb'; cases hb'
        obtain ⟨its, g1, ⟨o1, eo1, co1, no1, dt1⟩, _⟩ := I'.tuple (SqT.of ha)
        obtain ⟨jts, g2, ⟨o2, eo2, co2, no2, dt2⟩, _⟩ := I'.tuple (SqT.of hb)
        have m1 := g1.length
        have m2 := g2.length
        show wpAny _ _ (keyLt' (tuples' true) (.ref a) (.ref b)) _ _ _
        refine PySem.W.kat_lt eo1 dt1 eo2 dt2 ?_
        have ds : decide (its.toArray.size < jts.toArray.size) = false := decide_eq_false (by rw [List.size_toArray, List.size_toArray]; lia)
        rw [ds]
        refine kat_row cs its jts 0 (by lia) (by lia) (fun j u v c hu' hv hc' => ?_) (fun _ u v c hu' hv hc' => ?_) q
        · have j1 : j < (V.int f :: xr).length := by have := (List.getElem?_eq_some_iff.mp hu').1; lia
          have j2 : j < (V.int g :: yr).length := by have := (List.getElem?_eq_some_iff.mp hv).1; lia
          obtain ⟨u', e1, q1⟩ := g1.get (List.getElem?_eq_getElem j1)
          obtain ⟨v', e2, q2⟩ := g2.get (List.getElem?_eq_getElem j2)
          rw [hu'] at e1; obtain rfl := Option.some.inj e1
          rw [hv] at e2; obtain rfl := Option.some.inj e2
          have LL := hL j _ _ c (List.getElem?_eq_getElem j1) (List.getElem?_eq_getElem j2) hc'
          exact ⟨lx_eq I' LL A' _ _ (by lia) q1 q2, fun ne => lx_lt I' LL ne A' _ _ (by lia) q1 q2⟩
        · obtain ⟨u', e1, t1, r1⟩ := g1.get (i := 0) (x := .int f) rfl
          obtain ⟨v', e2, t2, r2⟩ := g2.get (i := 0) (x := .int g) rfl
          rw [hu'] at e1; obtain rfl := Option.some.inj e1
          rw [hv] at e2; obtain rfl := Option.some.inj e2
          have LL := hL 0 (.int f) (.int g) c rfl rfl hc'
          cases LL
          exact ⟨f, g, t1, t2, r1, r2, rfl⟩
end
section
variable {X : Cx}
end
end L2
end
section
set_option maxHeartbeats 4000001
namespace L2
open PySem PySem.Spec PyProof.Rows Own Ts
def Zip2 (H : Hp) (ts xs ys : List V) : Prop := ts.length = xs.length ∧ ∀ (i : Nat) t, ts[i]? = some t → ∃ a x y, t = .ref a ∧ xs[i]? = some x ∧ ys[i]? = some y ∧ H a = some (.tup [x, y])
def tSortZip (K : PySem.W.Frag) (b1 b2 : Bool) (ta : TA) : TE := fun σ H Q => ta σ H fun vs H1 => ∃ a1 a2 xs ys, vs = [.ref a1, .ref a2] ∧ SqB b1 K H1 a1 xs ∧ SqB b2 K H1 a2 ys ∧ ys.length = xs.length ∧ xs.length ≤ 63 ∧
  ∀ ts H2, Same H1 H2 → Zip2 H2 ts xs ys → ∃ rk, Rk H2 ts rk ∧ ∀ l zs, H2 l = none → zs.Perm ts → zs.Pairwise (fun x y => rk x ≤ rk y) → Q (.ref l) (upd H2 l (.lst zs))
theorem pe_sortZip {X : Cx} {a b : Expr} {ta : TA} {p p2 pos pos2 : Pos} (b1 b2 : Bool) (hg : Gl X "sorted") (hm : X.mg "sorted" = none) (hg2 : Gl X "zip") (hm2 : X.mg "zip" = none) (hc : X.calm = true) (hu : X.A.units + 64 < cLine) (ha : PA X [a, b] ta)
    (he : starEach [Expr.Call (.Name "zip" p2) [a, b] [] pos2] X.env = [(false, eval (Expr.Call (.Name "zip" p2) [a, b] [] pos2) X.env)] := by rfl)
    (hs : starEach [a, b] X.env = [(false, eval a X.env), (false, eval b X.env)] := by rfl) (hs2 : starEach [b] X.env = [(false, eval b X.env)] := by rfl) :
    PE X (.Call (.Name "sorted" p) [.Call (.Name "zip" p2) [a, b] [] pos2] [] pos) (tSortZip X.K b1 b2 ta) := by
  intro pins s σ H Q I h
  refine wpAny_Call_Name_kw (ld_blt I hg hm (u := .builtin "sorted") (by rfl) (PyProof.Rows.callWith_builtin1 ?_ he rfl))
  rw [he]
  show wpAny _ _ (spliced ((false, eval (Expr.Call (.Name "zip" p2) [a, b] [] pos2) X.env) :: [])) _ _ s
  refine Calls.spliced_cons ?_
  refine Call_ (ld_blt I hg2 hm2 (u := .type "zip") (by rfl) (PyProof.Rows.callWith_type1 (thn (ha pos2 pins s σ H _ I h) fun us s1 ⟨vs, H1, I1, r1, q1⟩ => ?_) (by rw [hs, hs2]) (by rw [hs2]; rfl)))
  obtain ⟨a1, a2, xs, ys, rfl, hq1, hq2, hl, hz, q⟩ := q1
  obtain ⟨u, v, rfl, ru, rv⟩ := r1.two
  cases ru
  cases rv
  obtain ⟨its, rx, pl1⟩ := I1.sq hq1
  obtain ⟨jts, ry, pl2⟩ := I1.sq hq2
  have lx := rx.length
  have ly := ry.length
  refine callType_new F.called_zip (by decide) (F.typeCall_zip_2 _ _) (F.newCall_zip_2 _ _) (fun obj => F.args_object_init_3 obj _ _) F.entry_zip_new (zip_new b1 b2 a1 a2 its.toArray jts.toArray) ⟨pl1, pl2, fun h' z ⟨TI, TO, i1, i2, nd, far, hzz, hI, hO, h1, h2⟩ hk => ⟨⟨_, hzz, rfl⟩, ?_⟩⟩
  refine Calls.spliced_nil ?_
  have I2 : Inv X pins σ H1 { s1 with heap := h', toks := s1.toks } := I1.kept hk
  have fp : ∀ c ∈ [z, TI, TO, i1, i2], FpOk X pins H1 c := fun c hc => I1.fpOk (far c hc) (I1.hok.fresh (far c hc))
  have na1 : ∀ c ∈ [z, TI, TO, i1, i2], c ≠ a1 := fun c hm => I1.sq_ne hq1 (fp c hm)
  have na2 : ∀ c ∈ [z, TI, TO, i1, i2], c ≠ a2 := fun c hm => I1.sq_ne hq2 (fp c hm)
  have nd' := nd
  simp only [List.nodup_cons, List.mem_cons, List.not_mem_nil, or_false, not_or] at nd'
  obtain ⟨⟨zI, zO, z1, z2⟩, ⟨IO, iI1, iI2⟩, ⟨O1, O2⟩, n12, _⟩ := nd'
  have S : Sep z TI TO i1 i2 [i1, a1] [i2, a2] := ⟨nd, by simp [z1, na1 z (by simp)], by simp [O1, na1 TO (by simp)], by simp [Ne.symm n12, na1 i2 (by simp)], by simp [z2, na2 z (by simp)], by simp [O2, na2 TO (by simp)], by simp [n12, na2 i1 (by simp)]⟩
  have hd := I1.ok.hd hc
  have q1' : SqO b1 h' a1 its.toArray := pl1.mv fun o e => hk _ _ e
  have q2' : SqO b2 h' a2 jts.toArray := pl2.mv fun o e => hk _ _ e
  have n12s : its.toArray.size = jts.toArray.size := by rw [List.size_toArray, List.size_toArray]; lia
  have D1 := draws (prog := X.prog) (w := X.w) (A := X.A.in1.in1.in1) hd b1 i1 a1 its.toArray (q1'.ne h1)
  have D2 := draws (prog := X.prog) (w := X.w) (A := X.A.in1.in1.in1) hd b2 i2 a2 jts.toArray (q2'.ne h2)
  rw [← n12s] at D2
  have low : ∀ c ∈ [i1, a1] ++ [i2, a2], c < h'.objs.size := fun c hc => by
    obtain ⟨o1, n1, e1, _⟩ := q1'.ob
    obtain ⟨o2, n2, e2, _⟩ := q2'.ob
    simp only [List.cons_append, List.nil_append, List.mem_cons, List.not_mem_nil, or_false] at hc
    rcases hc with rfl | rfl | rfl | rfl
    · exact Heap.lt_size h1
    · exact Heap.lt_size e1
    · exact Heap.lt_size h2
    · exact Heap.lt_size e2
  have fpL : FpOk X pins H1 h'.objs.size := I2.fpOk (Nat.le_refl _) (I2.hok.fresh (Nat.le_refl _))
  have lows : ∀ c ∈ [z, TO, i1, i2], c < h'.objs.size := fun c hc => by
    simp only [List.mem_cons, List.not_mem_nil, or_false] at hc
    rcases hc with rfl | rfl | rfl | rfl
    · exact Heap.lt_size hzz
    · exact Heap.lt_size hO
    · exact Heap.lt_size h1
    · exact Heap.lt_size h2
  refine sortedC (gather_zip (J := fun acc s' => ∃ (ts : List Addr) (Hk : Hp), Inv X pins σ Hk s' ∧ Same H1 Hk ∧ acc.toList = ts.map Value.ref ∧ (∀ (i : Nat) t, ts[i]? = some t → ∃ x y, xs[i]? = some x ∧ ys[i]? = some y ∧ Hk t = some (.tup [x, y])) ∧ (∀ c ∈ [z, TO, i1, i2, h'.objs.size], FpOk X pins Hk c)) S D1 D2 (Nat.le_refl _) hzz hI hO ⟨h1, q1'⟩ ⟨h2, q2'⟩ low ?_ ?_ ?_ ?_ ?_)
  · rw [List.size_toArray]; exact Nat.le_trans (show _ ≤ 63 by lia) (by decide)
  · rintro acc s' h2' tk x y ⟨ts, Hk, Ik, sm, ea, ht, fk⟩ lt px py new kk
    have il : acc.size < xs.length := by
      have b : acc.size < its.toArray.size := (Array.getElem?_eq_some_iff.mp px).1
      have b2 : its.toArray.size = its.length := List.size_toArray ..
      lia
    obtain ⟨u, e1, r1⟩ := rx.get (List.getElem?_eq_getElem il)
    obtain ⟨v, e2, r2⟩ := ry.get (List.getElem?_eq_getElem (show acc.size < ys.length by lia))
    have px' : its[acc.size]? = some x := by simpa using px
    have py' : jts[acc.size]? = some y := by simpa using py
    rw [px'] at e1; obtain rfl := Option.some.inj e1
    rw [py'] at e2; obtain rfl := Option.some.inj e2
    have nT : ∀ c ∈ [z, TO, i1, i2, h'.objs.size], c ≠ s'.heap.objs.size := fun c hc => by
      simp only [List.mem_cons, List.not_mem_nil, or_false] at hc
      rcases hc with rfl | rfl | rfl | rfl | rfl
      · exact Nat.ne_of_lt (Nat.lt_trans (Heap.lt_size hzz) lt)
      · exact Nat.ne_of_lt (Nat.lt_trans (Heap.lt_size hO) lt)
      · exact Nat.ne_of_lt (Nat.lt_trans (Heap.lt_size h1) lt)
      · exact Nat.ne_of_lt (Nat.lt_trans (Heap.lt_size h2) lt)
      · exact Nat.ne_of_lt lt
    have fk4 : ∀ c ∈ [z, TO, i1, i2], FpOk X pins Hk c := fun c hc => fk c (by simp only [List.mem_cons, List.not_mem_nil, or_false] at hc ⊢; rcases hc with m | m | m | m <;> simp [m])
    have fr : Hk s'.heap.objs.size = none := Ik.fresh
    have al : acc.size = ts.length := by rw [← Array.length_toList, ea, List.length_map]
    refine ⟨ts ++ [s'.heap.objs.size], _, Ik.spunN (fp := [z, TO, i1, i2]) kk fk4 (Nat.le_refl _) (pair_ok new r1 r2), sm.trans (same_new fr _), by rw [Array.toList_push, ea, List.map_append]; rfl, fun i t hi => ?_, fun c hc => ⟨by rw [upd_ne (nT c hc)]; exact (fk c hc).1, (fk c hc).2⟩⟩
    by_cases q : i < ts.length
    · rw [List.getElem?_append_left q] at hi
      obtain ⟨x', y', a1', a2', a3'⟩ := ht i t hi
      exact ⟨x', y', a1', a2', same_new fr _ _ _ a3'⟩
    · have il2 := (List.getElem?_eq_some_iff.mp hi).1
      rw [List.length_append] at il2
      have il3 : i = ts.length := by simp at il2; lia
      subst il3
      rw [List.getElem?_append_right (Nat.le_refl _), Nat.sub_self] at hi
      obtain rfl : s'.heap.objs.size = t := by simpa using hi
      rw [← al]
      exact ⟨_, _, List.getElem?_eq_getElem il, List.getElem?_eq_getElem (show acc.size < ys.length by lia), upd_same⟩
  · rintro acc s' h2' tk ⟨ts, Hk, Ik, sm, ea, ht, fk⟩ kk
    exact ⟨ts, Hk, Ik.spun (fp := [z, TO, i1, i2, h'.objs.size]) kk fk, sm, ea, ht, fk⟩
  · refine ⟨[], H1, I2, Same.refl _, rfl, fun i t hi => by simp at hi, fun c hc => ?_⟩
    simp only [List.mem_cons, List.not_mem_nil, or_false] at hc
    rcases hc with rfl | rfl | rfl | rfl | rfl
    · exact fp _ (by simp)
    · exact fp _ (by simp)
    · exact fp _ (by simp)
    · exact fp _ (by simp)
    · exact fpL
  · rintro h2' tk acc hn ⟨ts, Hk, Ik, sm, ea, ht, fk⟩ _ kk lt
    have tl : ts.length = xs.length := by
      have : acc.toList.length = ts.length := by rw [ea, List.length_map]
      rw [Array.length_toList, hn, List.size_toArray] at this; lia
    obtain ⟨rk, Rr, fin⟩ := q (ts.map V.ref) Hk sm ⟨by rw [List.length_map]; exact tl, fun i t hi => by
      rw [List.getElem?_map] at hi
      obtain ⟨t', e', rfl⟩ := Option.map_eq_some_iff.mp hi
      obtain ⟨x, y, a1', a2', a3'⟩ := ht i t' e'
      exact ⟨t', x, y, rfl, a1', a2', a3'⟩⟩
    have vr : Vals (ts.map V.ref) acc.toList := by
      rw [ea]
      clear ht ea tl Rr fin
      induction ts with
      | nil => exact .nil
      | cons t ts ih => exact .cons rfl ih
    obtain ⟨κ, ak, ac⟩ := asks Ik hu vr Rr
    refine ⟨κ, fun u => rk (vOf u), by rw [Array.length_toList, hn, List.size_toArray]; lia, ak, ac, fun h3 l e out lo eo pm so k3 => ?_⟩
    obtain ⟨ex, rel⟩ := vals_of vr Rr.kinds
    have vo : Vals (out.map vOf) out := vals_back fun u hu => rel u (pm.mem_iff.mp hu)
    refine ⟨.ref l, _, Ik.laid (t' := tk) (o := .lst (out.map vOf)) k3 lo ⟨?_, out, e, vo, eo⟩, rfl, fin l _ (Ik.hok.fresh lo) ?_ ?_⟩
    · rw [List.length_map, pm.length_eq, Array.length_toList, hn, List.size_toArray]; exact Nat.le_trans (show _ ≤ 63 by lia) (by decide)
    · rw [ex]; exact pm.map vOf
    · exact List.pairwise_map.mpr so
end L2
end
section
set_option maxHeartbeats 4000001
namespace Bn
open PySem L2 Own
theorem atNew {H : Hp} {a : Addr} (_ : H a = none) (o : HO) : L2.upd H a o a = some o := upd_same
def decF (H : Hp) : V → Fk
  | .ref g => match H g with
    | some (.tup [.int a, .int b]) => (a.toNat, b.toNat)
    | _ => (0, 0)
  | _ => (0, 0)
def dec (H : Hp) : V → Int × Fk
  | .ref t => match H t with
    | some (.tup [.int l, x]) => (l, decF H x)
    | _ => (0, (0, 0))
  | _ => (0, (0, 0))
theorem decF_at {H : Hp} {g : Addr} {f : Fk} (h : H g = some (.tup [.int f.1, .int f.2])) : decF H (.ref g) = f := by
  simp only [decF, h]
  obtain ⟨a, b⟩ := f
  simp
theorem dec_at {H : Hp} {t g : Addr} {l : Int} {f : Fk} (h : H t = some (.tup [.int l, .ref g])) (hg : H g = some (.tup [.int f.1, .int f.2])) : dec H (.ref t) = (l, f) := by
  show (match H t with | some (.tup [.int l, x]) => (l, decF H x) | _ => (0, (0, 0))) = (l, f)
  rw [h]
  show (l, decF H (.ref g)) = (l, f)
  rw [decF_at hg]
def Trp (H : Hp) (x : V) (p : Int × Fk) : Prop := ∃ t g, x = .ref t ∧ H t = some (.tup [.int p.1, .ref g]) ∧ H g = some (.tup [.int p.2.1, .int p.2.2])
theorem Trp.dec {H : Hp} {x : V} {p : Int × Fk} (h : Trp H x p) : dec H x = p := by
  obtain ⟨t, g, rfl, h1, h2⟩ := h
  exact dec_at h1 h2
theorem cmp_then {i j : Int} : (compare i j = .lt ↔ i < j) ∧ (compare i j = .eq ↔ i = j) ∧ (compare i j = .gt ↔ j < i) := by
  rw [show compare i j = compareOfLessAndEq i j from rfl]
  unfold compareOfLessAndEq
  by_cases h1 : i < j
  · rw [if_pos h1]; simp [h1]; lia
  · rw [if_neg h1]
    by_cases h2 : i = j
    · rw [if_pos h2]; simp [h2]
    · rw [if_neg h2]; simp [h1, h2]; lia
theorem cmp_of {i j : Int} {c : Ordering} (h : (c = .lt → i < j) ∧ (c = .eq → i = j) ∧ (c = .gt → j < i)) : compare i j = c := by
  cases c with
  | lt => exact cmp_then.1.mpr (h.1 rfl)
  | eq => exact cmp_then.2.1.mpr (h.2.1 rfl)
  | gt => exact cmp_then.2.2.mpr (h.2.2 rfl)
theorem cmp2 {a b a' b' : Int} (h1 : 0 ≤ b ∧ b < 32) (h2 : 0 ≤ b' ∧ b' < 32) : compare (a * 32 + b) (a' * 32 + b') = (compare a a').then (compare b b') := by
  apply cmp_of
  have c1 := @cmp_then a a'
  have c2 := @cmp_then b b'
  cases e : compare a a' <;> rw [e] at c1 <;> simp at c1
  · refine ⟨fun _ => by lia, fun z => ?_, fun z => ?_⟩ <;> cases z
  · cases f : compare b b' <;> rw [f] at c2 <;> simp at c2
    · refine ⟨fun _ => by lia, fun z => ?_, fun z => ?_⟩ <;> cases z
    · refine ⟨fun z => ?_, fun _ => by lia, fun z => ?_⟩ <;> cases z
    · refine ⟨fun z => ?_, fun z => ?_, fun _ => by lia⟩ <;> cases z
  · refine ⟨fun z => ?_, fun z => ?_, fun _ => by lia⟩ <;> cases z
theorem lx_fork {H : Hp} {n : Nat} {g g' : Addr} {f f' : Fk} (h : H g = some (.tup [.int f.1, .int f.2])) (h' : H g' = some (.tup [.int f'.1, .int f'.2])) (b : f.2 < 32) (b' : f'.2 < 32) :
    Lx H (n + 1) (.ref g) (.ref g') (compare ((f.1 : Int) * 32 + f.2) ((f'.1 : Int) * 32 + f'.2)) := by
  rw [cmp2 (by lia) (by lia)]
  exact Lx.pair h h' (.int _ _ _) (.int _ _ _)
theorem lx_trp {H : Hp} {x y : V} {p q : Int × Fk} (hx : Trp H x p) (hy : Trp H y q) (b : p.2.1 < 32 ∧ p.2.2 < 32) (b' : q.2.1 < 32 ∧ q.2.2 < 32) : Lx H 2 x y (compare (rnk p) (rnk q)) := by
  obtain ⟨t, g, rfl, h1, h2⟩ := hx
  obtain ⟨t', g', rfl, h3, h4⟩ := hy
  have e : compare (rnk p) (rnk q) = (compare p.1 q.1).then (compare ((p.2.1 : Int) * 32 + p.2.2) ((q.2.1 : Int) * 32 + q.2.2)) := by
    apply cmp_of
    have c1 := @cmp_then p.1 q.1
    have c2 := @cmp_then ((p.2.1 : Int) * 32 + p.2.2) ((q.2.1 : Int) * 32 + q.2.2)
    unfold rnk
    cases e : compare p.1 q.1 <;> rw [e] at c1 <;> simp at c1
    · refine ⟨fun _ => by lia, fun z => ?_, fun z => ?_⟩ <;> cases z
    · cases f : compare ((p.2.1 : Int) * 32 + p.2.2) ((q.2.1 : Int) * 32 + q.2.2) <;> rw [f] at c2 <;> simp at c2
      · refine ⟨fun _ => by lia, fun z => ?_, fun z => ?_⟩ <;> cases z
      · refine ⟨fun z => ?_, fun _ => by lia, fun z => ?_⟩ <;> cases z
      · refine ⟨fun z => ?_, fun z => ?_, fun _ => by lia⟩ <;> cases z
    · refine ⟨fun z => ?_, fun z => ?_, fun _ => by lia⟩ <;> cases z
  rw [e]
  exact Lx.pair h1 h3 (.int _ _ _) (lx_fork h2 h4 b.2 b'.2)
theorem zip_trp {H : Hp} {ts ps : List V} {ls : List Int} {fs : List Fk} (z : Zip2 H ts (ls.map V.int) ps) (pr : Prs H ps fs) : ts.map (dec H) = ls.zip fs ∧ ∀ x ∈ ts, Trp H x (dec H x) := by
  have pl := pr.len
  have tl := z.1
  rw [List.length_map] at tl
  have at_ : ∀ (i : Nat) t, ts[i]? = some t → ∃ l f, ls[i]? = some l ∧ fs[i]? = some f ∧ Trp H t (l, f) := fun i t ht => by
    obtain ⟨a, x, y, rfl, hx, hy, ha⟩ := z.2 i t ht
    rw [List.getElem?_map] at hx
    obtain ⟨l, hl, rfl⟩ := Option.map_eq_some_iff.mp hx
    obtain ⟨g, f, rfl, hf, hg⟩ := pr.get hy
    exact ⟨l, f, hl, hf, a, g, rfl, ha, hg⟩
  refine ⟨List.ext_getElem? fun i => ?_, fun x hx => ?_⟩
  · rw [List.getElem?_map]
    cases e : ts[i]? with
    | none =>
      have il := List.getElem?_eq_none_iff.mp e
      exact (List.getElem?_eq_none_iff.mpr (by rw [List.length_zip]; lia)).symm
    | some t =>
      obtain ⟨l, f, hl, hf, tr⟩ := at_ i t e
      rw [Option.map_some, tr.dec]
      exact (List.getElem?_zip_eq_some.mpr ⟨hl, hf⟩).symm
  · obtain ⟨i, hi⟩ := List.mem_iff_getElem?.mp hx
    obtain ⟨l, f, _, _, tr⟩ := at_ i x hi
    rw [tr.dec]; exact tr
def IsFk (H : Hp) (x : V) (f : Fk) : Prop := ∃ g, x = .ref g ∧ H g = some (.tup [.int f.1, .int f.2])
theorem IsFk.dec {H : Hp} {x : V} {f : Fk} (h : IsFk H x f) : decF H x = f := by
  obtain ⟨g, rfl, e⟩ := h
  exact decF_at e
theorem prs_of {H : Hp} : ∀ {ps : List V}, (∀ x ∈ ps, IsFk H x (decF H x)) → Prs H ps (ps.map (decF H))
  | [], _ => trivial
  | x :: ps, h => by
    obtain ⟨g, e, hg⟩ := h x List.mem_cons_self
    exact ⟨⟨g, e, hg⟩, prs_of fun y hy => h y (List.mem_cons_of_mem _ hy)⟩
theorem Prs.app {H : Hp} : ∀ {ps qs : List V} {fs gs : List Fk}, Prs H ps fs → Prs H qs gs → Prs H (ps ++ qs) (fs ++ gs)
  | [], _, [], _, _, h => h
  | _ :: _, _, _ :: _, _, ⟨x, r⟩, h => ⟨x, Prs.app r h⟩
theorem pz_zip (N : Nt) : pz N = (layers N).zip N.forks := by
  rw [← pz_layers, ← pz_forks]
  induction pz N with
  | nil => rfl
  | cons x l ih => rw [List.map_cons, List.map_cons, List.zip_cons_cons, ← ih]
end Bn
end
section
set_option maxHeartbeats 4000001
namespace K33
open PySem L2 Own Bn
abbrev sPlain : Stmt := top 6
def spPlain : Sp := fun vs H Q _ => ∃ r fr er ps N, vs = [.ref r] ∧ Nt.Ok N ∧ N.forks.length ≤ 63 ∧ NetAt H r fr er ps N ∧ ∀ r' fr' ps' H', Same H H' → NetAt H' r' fr' er ps' (plainN N) → Q (.ref r') H'
section
variable {P : Program} {w : World} {K : PySem.W.Frag} {mg : Str → Option Value} {base : Heap}
theorem scPl : FnScope ["net", "lanes", "forks", "ends"] ["net"] (defScope sPlain) := ⟨rfl, rfl, rfl, by decide +kernel, rfl, by decide +kernel, by decide +kernel⟩
theorem ok_plain {f fY : Addr} {fd dY : FuncData} (F : Fun K "plain" "plain" sPlain f fd) (G : Mgs mg) (UY : Use P w K mg base "layers" ["net"] 1 spLayers fY dY) : FnOk P w K mg base CX0 2 f fd ["net"] spPlain := by
  refine F.ok scPl (fun vs H Q E h => ?_) (fun cdv A outer s H vs Q E hr h => ?_)
  · obtain ⟨r, fr, er, ps, N, rfl, _⟩ := h
    rfl
  obtain ⟨r, fr, er, ps, N, rfl, ok, few, na, k⟩ := h
  refine ⟨_, (@pss_cons _ _ _ _ _ (@ps_asg _ _ _ _ _ _ (@pv _ 0 _ _ (by rfl) (by first | exact Or.inl rfl | exact Or.inr (Or.inl rfl) | exact Or.inr (Or.inr rfl)) (by decide) (by decide)) (@pg_tup _ _ _ _ _ _ rfl (@pgs_cons _ _ _ _ _ (@pg_name _ _ 1 _ scPl.nd rfl (Or.inl rfl) (by first | exact .inl rfl | exact .inr rfl | assumption)) (@pgs_cons _ _ _ _ _ (@pg_name _ _ 2 _ scPl.nd rfl (Or.inl rfl) (by first | exact .inl rfl | exact .inr rfl | assumption)) (@pgs_cons _ _ _ _ _ (@pg_name _ _ 3 _ scPl.nd rfl (Or.inl rfl) (by first | exact .inl rfl | exact .inr rfl | assumption)) pgs_nil (by rfl)) (by rfl)) (by rfl)) (by rfl) (by rfl)) (by rfl) (by rfl) (by rfl)) (@pss_one _ _ _ (@ps_ret _ _ _ _ (@pe_tup _ _ _ _ _ (@pa_cons _ _ _ _ _ (@pv _ 1 _ _ (by rfl) (by first | exact Or.inl rfl | exact Or.inr (Or.inl rfl) | exact Or.inr (Or.inr rfl)) (by decide) (by decide)) (@pa_cons _ _ _ _ _ (@pe_callTy _ _ _ _ _ _ _ _ _ call_tuple_of (by rfl) G.tuple (by rfl) (@pa_cons _ _ _ _ _ (@pe_lc _ _ _ _ none _ _ _ (gTup K 2 (gCons (gName 0) (gCons (gName 1) gNil))) _ _ ["layer", "fork"] [none, none] rfl (@pi_list _ _ _ _ (@pe_sortZip _ _ _ _ _ _ _ _ false false (by rfl) G.sorted (by rfl) G.zip rfl hr.units (@pa_cons _ _ _ _ _ (@pe_call _ _ _ _ _ _ _ _ _ _ _ _ _ _ _ _ UY.ok hr (by rfl) UY.m UY.kp UY.b .nil pass0 (@pa_cons _ _ _ _ _ (@pv _ 0 _ _ (by rfl) (by first | exact Or.inl rfl | exact Or.inr (Or.inl rfl) | exact Or.inr (Or.inr rfl)) (by decide) (by decide)) pa_nil (by rfl)) (by decide) (by rfl) (by rfl)) (@pa_cons _ _ _ _ _ (@pv _ 2 _ _ (by rfl) (by first | exact Or.inl rfl | exact Or.inr (Or.inl rfl) | exact Or.inr (Or.inr rfl)) (by decide) (by decide)) pa_nil (by rfl)) (by rfl)) (by rfl) (by rfl) (by rfl))) (CapOk.of (by kernel_rfl)) (fun _ _ _ _ _ => (@pg_tup _ _ _ _ _ _ rfl (@pgs_cons _ _ _ _ _ (@pg_name _ _ 0 _ (show (["layer", "fork"] : List Str).Nodup from by decide +kernel) rfl (Or.inl rfl) (Or.inr rfl)) (@pgs_cons _ _ _ _ _ (@pg_name _ _ 1 _ (show (["layer", "fork"] : List Str).Nodup from by decide +kernel) rfl (Or.inl rfl) (Or.inr rfl)) pgs_nil (by rfl)) (by rfl)) (by rfl) (by rfl))) (fun _ _ _ _ _ => pt_none) (fun _ _ _ _ _ => (@pv _ 1 _ _ (by rfl) (by first | exact Or.inl rfl | exact Or.inr (Or.inl rfl) | exact Or.inr (Or.inr rfl)) (by decide) (by decide))) (by intro _; rfl)) pa_nil (by rfl)) (by decide) (by decide) (by rfl) (by rfl)) (@pa_cons _ _ _ _ _ (@pv _ 3 _ _ (by rfl) (by first | exact Or.inl rfl | exact Or.inr (Or.inl rfl) | exact Or.inr (Or.inr rfl)) (by decide) (by decide)) pa_nil (by rfl)) (by rfl)) (by rfl)))))), ?_⟩
  have fm := ok.fm
  have pl := na.prs.len
  have ll := layers_len N
  refine ⟨_, rfl, r, _, rfl, SqT.of na.net, rfl, _, _, rfl, _, _, rfl, _, _, rfl, rfl, ?_⟩
  refine ⟨_, rfl, _, rfl, r, fr, er, ps, N, rfl, ok, na, fun p H1 s1 hp => ?_⟩
  have na1 := na.tups (Tups.of s1)
  refine ⟨_, rfl, p, fr, _, ps, rfl, SqT.of hp, SqT.of na1.forks, by rw [List.length_map]; lia, by rw [List.length_map]; lia, fun ts H2 s2 z2 => ?_⟩
  have na2 := na1.tups (Tups.of s2)
  obtain ⟨te, tr⟩ := zip_trp z2 na2.prs
  rw [← pz_zip] at te
  have low : ∀ x ∈ ts, (dec H2 x).2.1 < 32 ∧ (dec H2 x).2.2 < 32 := fun x hx => pz_low ok _ (by rw [← te]; exact List.mem_map.mpr ⟨x, hx, rfl⟩)
  refine ⟨fun x => rnk (dec H2 x), .inr ⟨2, by decide, fun x hx => ⟨?_, fun y hy => lx_trp (tr x hx) (tr y hy) (low x hx) (low y hy)⟩⟩, fun l zs hl pm so => ?_⟩
  · obtain ⟨t, g, rfl, h1, _⟩ := tr x hx
    exact ⟨t, _, _, rfl, h1⟩
  have s3 := same_new hl (.lst zs)
  have zl : zs.length = N.forks.length := by rw [pm.length_eq, z2.1, List.length_map]; exact ll
  have ze : zs.map (dec H2) = isort (pz N) := plain_of_sorted ok (by rw [← te]; exact pm.map _) (List.pairwise_map.mpr so)
  have trz : ∀ x ∈ zs, Trp H2 x (dec H2 x) := fun x hx => tr x (pm.mem_iff.mp hx)
  refine ⟨l, rfl, ⟨_, SqL.of (atNew hl (.lst zs))⟩, fun lq hlq => ?_⟩
  refine lc_list (K := K) (a := l) (xs := zs) (fun j acc σ H4 => (∃ v0 v1, σ = [v0, v1]) ∧ Same H2 H4 ∧ H4 l = some (.lst zs) ∧ H4 lq = some (.lst acc) ∧ acc.length = j ∧ Prs H4 acc ((zs.take j).map fun x => (dec H2 x).2)) ⟨⟨_, _, rfl⟩, s3.trans (same_new hlq _), same_new hlq _ _ _ (atNew hl (.lst zs)), upd_same, rfl, trivial⟩ (fun j acc σ H4 q => ⟨q.2.2.2.1, SqL.of q.2.2.1⟩) ?_ ?_
  · rintro j x acc σ H4 hx ⟨⟨v0, v1, rfl⟩, s4, l4, h4, al, pr⟩
    have jl := (List.getElem?_eq_some_iff.mp hx).1
    obtain ⟨t, g, e, h1, h2⟩ := trz x (List.mem_of_getElem? hx)
    have ne : lq ≠ l := by rintro rfl; rw [atNew hl (.lst zs)] at hlq; cases hlq
    have keep : Same H2 (upd H4 lq (.lst (acc ++ [.ref g]))) := fun b o e => by rw [upd_ne (ne_of_none (s3 b o e) hlq)]; exact s4 b o e
    refine ⟨t, _, e, SqT.of (s4 _ _ h1), rfl, _, _, rfl, _, _, rfl, rfl, _, rfl, h4, Nat.lt_of_lt_of_le (show _ < 1000 by lia) (by decide), nx jl ⟨⟨_, _, rfl⟩, keep, by rw [upd_ne ne.symm]; exact l4, upd_same, by simp [al], ?_⟩⟩
    have xe : zs[j] = x := (List.getElem?_eq_some_iff.mp hx).2
    rw [List.take_succ_eq_append_getElem jl, List.map_append, xe]
    exact Prs.add (f := (dec H2 x).2) (keep _ _ h2) (pr.tups (Tups.lst h4))
  · rintro acc σ H4 ⟨⟨v0, v1, rfl⟩, s4, l4, h4, al, pr⟩
    rw [List.take_length] at pr
    have pe : (zs.map fun x => (dec H2 x).2) = plainF N := by
      unfold plainF
      rw [← ze, List.map_map]; rfl
    rw [pe] at pr
    refine ⟨lq, _, rfl, .inl ⟨SqL.of h4, fun q hq => ?_⟩⟩
    have s5 := same_new hq (.tup acc)
    refine ⟨_, rfl, (by show 3 ≤ sizeLine; decide), fun r' hr' => ?_⟩
    have s6 := same_new hr' (.tup [.int N.lanes, .ref q, .ref er])
    refine k r' q acc _ ((((s1.trans s2).trans s4).trans s5).trans s6) ⟨atNew hr' _, s6 _ _ (atNew hq _), pr.tups (Tups.of (s5.trans s6)), ?_⟩
    exact s6 _ _ (s5 _ _ (s4 _ _ na2.ends))
end
end K33
end
section
set_option maxHeartbeats 4000001
namespace L2
open PySem PySem.Spec PyProof.Rows
abbrev e2 (elt tg iter tg1 iter1 : Expr) (ifs : List Expr) (scope : Scope) (pos : Pos) : Expr := .ListComp elt [⟨tg, iter, [], 0⟩, ⟨tg1, iter1, ifs, 0⟩] scope pos
theorem turn_two0 (elt tg iter tg1 iter1 : Expr) (ifs : List Expr) (scope : Scope) (pos : Pos) (it acc : Value) (env : Env) :
    compTurn (e2 elt tg iter tg1 iter1 ifs scope pos) 0 it acc env = (standAt iter.pos >>= fun _ => pyNext it >>= fun r => match r with
      | none => pure (.done .next)
      | some v => letOwnedTupleGo tg it v >>= fun _ => assign tg env v >>= fun _ =>
        (eval iter1 env >>= fun x => standAt iter1.pos >>= fun _ => foldedSetIterable iter1 env x >>= fun x => holding [x] (pyIter x) >>= fun i1 => runOwn (.compStart (e2 elt tg iter tg1 iter1 ifs scope pos) 1 i1 acc env) env >>= fun _ =>
          again (.compLoop (e2 elt tg iter tg1 iter1 ifs scope pos) 0 it acc env))) := by rfl
theorem turn_two1 (elt tg iter tg1 iter1 : Expr) (scope : Scope) (pos : Pos) (it acc : Value) (env : Env) :
    compTurn (e2 elt tg iter tg1 iter1 [] scope pos) 1 it acc env = (standAt iter1.pos >>= fun _ => pyNext it >>= fun r => match r with
      | none => pure (.done .next)
      | some v => letOwnedTupleGo tg1 it v >>= fun _ => assign tg1 env v >>= fun _ =>
        ((eval elt env >>= fun x => call (.builtin "list.append") [acc, x] >>= fun _ => pure ()) >>= fun _ =>
          again (.compLoop (e2 elt tg iter tg1 iter1 [] scope pos) 1 it acc env))) := by rfl
theorem turn_two1t (elt tg iter tg1 iter1 c : Expr) (scope : Scope) (pos : Pos) (it acc : Value) (env : Env) :
    compTurn (e2 elt tg iter tg1 iter1 [c] scope pos) 1 it acc env = (standAt iter1.pos >>= fun _ => pyNext it >>= fun r => match r with
      | none => pure (.done .next)
      | some v => letOwnedTupleGo tg1 it v >>= fun _ => assign tg1 env v >>= fun _ => (forIn [c] true fun c r => if r = true then (isTrue c env (eval c env) >>= fun ok => pure (ForInStep.yield ok)) else pure (ForInStep.yield r)) >>= fun ok =>
        if ok = true then
        ((eval elt env >>= fun x => call (.builtin "list.append") [acc, x] >>= fun _ => pure ()) >>= fun _ =>
          again (.compLoop (e2 elt tg iter tg1 iter1 [c] scope pos) 1 it acc env)) else again (.compLoop (e2 elt tg iter tg1 iter1 [c] scope pos) 1 it acc env)) := by rfl
section
variable {prog : Program} {w : World} {A : Around} {R : Result → Shared → Prop} {s : Shared} {elt tg iter tg1 iter1 : Expr} {scope : Scope} {pos : Pos} {it acc : Value} {env : Env}
theorem comp_start1 {ifs : List Expr}
    (h0 : codeAny (model prog w) A (.compLoop (e2 elt tg iter tg1 iter1 ifs scope pos) 1 it acc env) R s)
    (h : wpAny (model prog w) A (pyIter it) (fun i2 z => codeAny (model prog w) A (.compLoop (e2 elt tg iter tg1 iter1 ifs scope pos) 1 i2 acc env) R z) NoX s) :
    codeAny (model prog w) A (.compStart (e2 elt tg iter tg1 iter1 ifs scope pos) 1 it acc env) R s := by
  refine codeAny_of_tree ?_
  show wpAny _ A ((compStart (e2 elt tg iter tg1 iter1 ifs scope pos) 1 it acc env).onRaise (fun x => do noteFrame x env; standAt theWindowsPlace)) _ _ s
  refine wpAny_notedAt ?_
  unfold compStart
  refine (show wpAny _ _ (ask >>= _) _ _ s from wpAny_bind (wpAny_askSetting (wpAny_ite ?_)))
  split
  · first
      | exact wpAny_bind (wpAny_pure (wpAny_pure ⟨rfl, h0⟩))
      | exact wpAny_pure ⟨rfl, h0⟩
  · apply wpAny_bind; refine wpAny_rule ?_
    first
      | exact wpAny_bind (wpAny_standAt (wpAny_bind (wpAny_mono h (fun it' s' h' => wpAny_pure ⟨rfl, h'⟩) fun _ _ z => z.elim)))
      | (show wpAny _ _ (standAt iter1.pos >>= _) _ _ s; exact wpAny_bind (wpAny_standAt (wpAny_bind (wpAny_mono h (fun it' s' h' => wpAny_pure ⟨rfl, h'⟩) fun _ _ z => z.elim))))
theorem two_loop1 {o : Option Expr} (J : Nat → Shared → Prop)
    (turn : ∀ n s, J n s → Go (model prog w) A tg1 elt o it acc env R (fun z => ∃ m, m < n ∧ J m z) s) (n : Nat) (h : J n s) :
    codeAny (model prog w) A (.compLoop (.ListComp elt [⟨tg, iter, [], 0⟩, ⟨tg1, iter1, o.toList, 0⟩] scope pos) 1 it acc env) R s := by
  cases o with
  | none =>
    refine codeAny_loop rfl J (fun n s hI => ?_) n h
    show wpAny _ A ((compTurn (e2 elt tg iter tg1 iter1 [] scope pos) 1 it acc env).onRaise (fun x => do noteFrame x env; theTreesLotGoes x)) _ _ s
    refine wpAny_noted ?_
    rw [turn_two1]
    refine wpAny_bind (wpAny_standAt (wpAny_bind (wpAny_mono (turn n s hI) (fun r a h1 => ?_) fun _ _ z => z.elim)))
    cases r with
    | none => exact wpAny_pure h1
    | some v =>
      refine wpAny_bind (wpAny_mono h1 (fun _ b h2 => ?_) fun _ _ z => z.elim)
      refine wpAny_bind (wpAny_mono h2 (fun _ c h3 => ?_) fun _ _ z => z.elim)
      have h3' : wpAny (model prog w) A (eval elt env) (fun x e => wpAny (model prog w) A (call (.builtin "list.append") [acc, x]) (fun _ f => ∃ m, m < n ∧ J m f) NoX e) NoX c := h3
      exact wpAny_bind (wpAny_bind (wpAny_mono h3' (fun x d h4 => wpAny_bind (wpAny_mono h4 (fun _ e h5 => wpAny_pure (wpAny_pure ⟨rfl, h5⟩)) fun _ _ z => z.elim)) fun _ _ z => z.elim))
  | some t =>
    refine codeAny_loop rfl J (fun n s hI => ?_) n h
    show wpAny _ A ((compTurn (e2 elt tg iter tg1 iter1 [t] scope pos) 1 it acc env).onRaise (fun x => do noteFrame x env; theTreesLotGoes x)) _ _ s
    refine wpAny_noted ?_
    rw [turn_two1t]
    refine wpAny_bind (wpAny_standAt (wpAny_bind (wpAny_mono (turn n s hI) (fun r a h1 => ?_) fun _ _ z => z.elim)))
    cases r with
    | none => exact wpAny_pure h1
    | some v =>
      refine wpAny_bind (wpAny_mono h1 (fun _ b h2 => ?_) fun _ _ z => z.elim)
      refine wpAny_bind (wpAny_mono h2 (fun _ c h3 => ?_) fun _ _ z => z.elim)
      have h3' : wpAny (model prog w) A (isTrue t env (eval t env)) (fun yes d => if yes = true then wpAny (model prog w) A (eval elt env) (fun x e => wpAny (model prog w) A (call (.builtin "list.append") [acc, x]) (fun _ f => ∃ m, m < n ∧ J m f) NoX e) NoX d else ∃ m, m < n ∧ J m d) NoX c := h3
      refine wpAny_bind (wpAny_tests_one (wpAny_mono h3' (fun yes d h4 => ?_) fun _ _ z => z.elim))
      cases yes with
      | false => exact wpAny_pure ⟨rfl, h4⟩
      | true => exact wpAny_bind (wpAny_bind (wpAny_mono h4 (fun x e h5 => wpAny_bind (wpAny_mono h5 (fun _ f h6 => wpAny_pure (wpAny_pure ⟨rfl, h6⟩)) fun _ _ z => z.elim)) fun _ _ z => z.elim))
theorem two_loop0 {ifs : List Expr} (J : Nat → Shared → Prop)
    (turn : ∀ n s, J n s → wpAny (model prog w) A (pyNext it) (fun r a => match r with
      | none => R (.ok .next) a
      | some v => wpAny (model prog w) A (letOwnedTupleGo tg it v) (fun _ b => wpAny (model prog w) A (assign tg env v) (fun _ c => wpAny (model prog w) A (eval iter1 env) (fun x d => wpAny (model prog w) A (pyIter x) (fun i1 e =>
          codeAny (model prog w) A (.compStart (e2 elt tg iter tg1 iter1 ifs scope pos) 1 i1 acc env) (fun r f => match r with | .ok _ => ∃ m, m < n ∧ J m f | .error _ => False) e) NoX d) NoX c) NoX b) NoX a) NoX s) (n : Nat) (h : J n s)
    (hs : ∀ x, foldedSetIterable iter1 env x = pure x) :
    codeAny (model prog w) A (.compLoop (e2 elt tg iter tg1 iter1 ifs scope pos) 0 it acc env) R s := by
  refine codeAny_loop rfl J (fun n s hI => ?_) n h
  show wpAny _ A ((compTurn (e2 elt tg iter tg1 iter1 ifs scope pos) 0 it acc env).onRaise (fun x => do noteFrame x env; theTreesLotGoes x)) _ _ s
  refine wpAny_noted ?_
  rw [turn_two0]
  refine wpAny_bind (wpAny_standAt (wpAny_bind (wpAny_mono (turn n s hI) (fun r a h1 => ?_) fun _ _ z => z.elim)))
  cases r with
  | none => exact wpAny_pure h1
  | some v =>
    refine wpAny_bind (wpAny_mono h1 (fun _ b h2 => ?_) fun _ _ z => z.elim)
    refine wpAny_bind (wpAny_mono h2 (fun _ c h3 => ?_) fun _ _ z => z.elim)
    refine wpAny_bind (wpAny_mono h3 (fun x d h4 => ?_) fun _ _ z => z.elim)
    refine wpAny_bind (wpAny_standAt (wpAny_bind (wpAny_of_eq (hs x) (wpAny_bind (wpAny_holding (wpAny_mono h4 (fun i1 e h5 => ?_) fun _ _ z => z.elim))))))
    refine wpAny_bind (wpAny_runOwn (codeAny_mono h5 (fun r f h6 => ?_)))
    cases r with
    | ok fl => exact wpAny_pure ⟨rfl, h6⟩
    | error x => exact h6.elim
end
def LCW1 (J : It) (g : TG) (tt : TT) (te : TE) (l : Addr) (Q : List V → St → Hp → Prop) (W : Nat → Nat → List V → St → Hp → Prop) : Prop :=
  ∀ i m acc σ' H', W i m acc σ' H' → H' l = some (.lst acc) ∧
    ((J.stop i H' ∧ Q acc σ' H') ∨ (J.go i H' ∧ ∀ x H2, J.yld i H' x H2 → g x σ' H2 fun σ3 H3 => tt σ3 H3 fun b H4 =>
      if b = true then te σ3 H4 fun y H5 => H5 l = some (.lst acc) ∧ acc.length < sizeLine ∧ ∃ m', m' < m ∧ W (i + 1) m' (acc ++ [y]) σ3 (upd H5 l (.lst (acc ++ [y])))
      else ∃ m', m' < m ∧ W (i + 1) m' acc σ3 H4))
def tLC2 (cap : List (Option Nat)) (wi : TI) (g : TG) (wi1 : TI) (g1 : TG) (tt : TT) (te : TE) : TE := fun σ H Q => wi σ H fun J H1 => ∀ l, H1 l = none →
  ∃ W : Nat → Nat → List V → St → Hp → Prop, (∃ m, W 0 m [] (capσ cap σ) (upd H1 l (.lst []))) ∧
    ∀ i m acc σ' H', W i m acc σ' H' → H' l = some (.lst acc) ∧ ((J.stop i H' ∧ Q (.ref l) H') ∨ (J.go i H' ∧ ∀ x H2, J.yld i H' x H2 → g x σ' H2 fun σ3 H3 => wi1 σ3 H3 fun J1 H4 =>
      ∃ W1 : Nat → Nat → List V → St → Hp → Prop, (∃ m1, W1 0 m1 acc σ3 H4) ∧ LCW1 J1 g1 tt te l (fun ac τ G => ∃ m', m' < m ∧ W (i + 1) m' ac τ G) W1))
theorem lc_core2 {X : Cx} {elt tg iter tg1 iter1 : Expr} {o : Option Expr} {scope : Scope} {pos ppos : Pos} {wi wi1 : TI} {g g1 : TG} {tt : TT} {te : TE} {N' : List Str} {cap : List (Option Nat)} {use : Option (Value → Sem Unit)} {Q0 : Value → Shared → Prop}
    (hc : X.calm = true) (hi : PI X tg iter wi) (ck : CapOk X.N N' X.env.scope scope cap)
    (hg : ∀ C s₀ H₀ fp pins, PG (cxComp X N' scope C s₀ H₀ fp pins) tg g)
    (hi1 : ∀ C s₀ H₀ fp pins, PI (cxComp X N' scope C s₀ H₀ fp pins) tg1 iter1 wi1)
    (hg1 : ∀ C s₀ H₀ fp pins, PG (cxComp X N' scope C s₀ H₀ fp pins) tg1 g1)
    (ht : ∀ C s₀ H₀ fp pins, PTo (cxComp X N' scope C s₀ H₀ fp pins) o tt)
    (he : ∀ C s₀ H₀ fp pins, PE (cxComp X N' scope C s₀ H₀ fp pins) elt te)
    (hs : ∀ x, foldedSetIterable iter X.env x = pure x) (hs1 : ∀ C x, foldedSetIterable iter1 (compEnvC scope (clOf X.env.cells scope.names []) C X.env) x = pure x) {pins : List (Addr × Obj)} {s : Shared} {σ : St} {H : Hp} {Q : VK} (I : Inv X pins σ H s) (h : tLC2 cap wi g wi1 g1 tt te σ H Q)
    (fin : ∀ (l C : Addr) (H4 : Hp) (s5 : Shared) (m : Str → Option Value), Inv X pins σ H4 s5 → Q (.ref l) H4 → s5.heap.Ns C m → FpOk X pins H4 C → compPost (model X.prog X.w) X.A X.xe use Q0 (.ref l) C (.ok .next) s5) :
    wpAny (model X.prog X.w) X.A (comprehension (.ListComp elt [⟨tg, iter, [], 0⟩, ⟨tg1, iter1, o.toList, 0⟩] scope pos) scope X.env ppos (newList []) false (eval iter X.env) use) Q0 X.xe s := by
  have hcells : ∀ y ∈ scope.names, y.2 = .free → ∃ c, X.env.cells.lookup y.1 = some c := fun y hy hf => I.ok.has y.1 (ck.free y hy hf)
  refine wpAny_comprehension_free (use := use) rfl hs (closure_eq hcells) ck.kind ck.names (thn (hi pins s σ H _ I h) fun v s1 h1 => thn h1 fun itv s2 h2 => ?_)
  obtain ⟨it, fp, tn, J, H2, e, I2, T, st2, f2, body⟩ := h2
  subst e
  have hfr2 : H2 s2.heap.objs.size = none := I2.hok.fresh (Nat.le_refl _)
  obtain ⟨W, ⟨m0, w0⟩, turn⟩ := body s2.heap.objs.size hfr2
  have I3 : Inv X pins σ (upd H2 s2.heap.objs.size (.lst [])) { s2 with heap := s2.heap.push { cls := .type "list", data := .seq ([] : List Value).toArray }, toks := s2.toks } := I2.lnew (its := []) (t' := s2.toks) .nil (Nat.zero_le _)
  refine wpAny_newObj_type (wpAny_newFunctionEnv ck.nocell (by intro y hy; simp at hy) (fun h₁ hns₁ hsb₁ => ?_) ck.kind)
  dsimp only at hns₁ hsb₁ ⊢
  generalize hl : s2.heap.objs.size = l at *
  generalize hP : s2.heap.push { cls := .type "list", dict := none, data := .seq ([] : List Value).toArray } = P2 at *
  generalize hH3 : upd H2 l (.lst []) = H3 at *
  have old : ∀ b o, P2.get? b = some o → h₁.get? b = some o := fun b o e => hsb₁.extBut b o (Nat.ne_of_lt (Heap.lt_size e)) (Heap.get?_push_of_some _ e)
  have old2 : ∀ b o, s2.heap.get? b = some o → P2.get? b = some o := fun b o e => hP ▸ Heap.get?_push_of_some _ e
  have fpl : ∀ b ∈ fp, b < l := fun b hb => by
    obtain ⟨o, e, _⟩ := T.obj _ _ st2 b hb
    rw [← hl]; exact Heap.lt_size e
  have fp3 : ∀ b ∈ fp, H3 b = none := fun b hb => by
    rw [← hH3, upd_ne (Nat.ne_of_lt (fpl b hb))]; exact (f2 b hb).1
  have hPs : P2.objs.size = l + 1 := by rw [← hP, Heap.size_push, hl]
  have subc : ∀ x c, (clOf X.env.cells scope.names []).lookup x = some c → X.env.cells.lookup x = some c := fun x c e => clOf_sub _ _ x c hcells (fun _ _ z => by simp at z) e
  generalize hs3 : ({ s2 with heap := P2, toks := s2.toks } : Shared) = s3 at *
  have hs3h : s3.heap = P2 := by rw [← hs3]
  let Y := cxComp X N' scope P2.objs.size s3 H3 fp pins
  have hYok : Y.Ok := by
    refine ⟨I3.ok.mod, ck.kind, I3.ok.glob, I3.ok.blt, by show s3.heap.objs.size ≤ P2.objs.size; rw [hs3h]; exact Nat.le_refl _, fun x y c e1 e2 => I3.ok.inj x y c (subc x c e1) (subc y c e2), fun x hx => ?_, fun x c hx => absurd (show false = true from hx) Bool.false_ne_true, I3.ok.hd, I3.ok.frames, .inl rfl, fun b hb => ⟨?_, fun x c e => ?_⟩, I3.bs,
      Nat.le_trans I3.ok.bsz I3.sz, fun b o e hb => ?_, fun b hb hz => ?_, I3.stack, I3.stkFree⟩
    · have hx' : scope.names.lookup x = some .free := by
        rcases hx with hx | hx
        · rcases relabel_kind hx with z | z
          · exact absurd rfl (ck.nocell _ (lookup_mem z))
          · exact z.2
        · rcases relabel_kind hx with z | z
          · exact z
          · exact z.2
      exact clOf_has _ _ x hx'
    · exact Nat.ne_of_lt (by show b < P2.objs.size; rw [hPs]; exact Nat.lt_succ_of_lt (fpl b hb))
    · exact (f2 b hb).2.2.2.2.1 x c (subc x c e)
    · rcases (f2 b hb).2.2.2.1 with z | z
      · exact I3.ok.noex b o e z
      · exact absurd (Nat.lt_of_lt_of_le (Heap.lt_size e) (Nat.le_trans I3.ok.bsz z)) (Nat.lt_irrefl _)
    · rcases List.mem_cons.mp (I3.stkSub b hz) with z | z
      · exact (f2 b hb).2.1 z
      · exact (f2 b hb).2.2.1 z
  have hYi : Inv Y [] (capσ cap σ) H3 { s2 with heap := h₁, toks := s2.toks } := by
    refine ⟨hYok, by show s2.os = s3.os; rw [← hs3], I2.bare, by show Un _ _ _ _ s3.heap h₁; rw [hs3h]; exact Un.kept old, ⟨_, hns₁, fun j x v e1 e2 e3 => ?_⟩, fun x c e => ?_, ?_, fun x c e => I3.freeC x c (subc x c e), fun p hp => ?_, fun b o e => ?_, ?_⟩
    · have e1' : N'[j]? = some x := e1
      unfold capσ at e2
      rw [List.getElem?_map] at e2
      cases ec : cap[j]? with
      | none => rw [ec] at e2; cases e2
      | some oc =>
        rw [ec] at e2
        cases oc with
        | none => cases e2
        | some i =>
          have e2' : σ[i]? = some (some v) := by
            cases ei : σ[i]? with
            | none => simp [ei] at e2
            | some v' =>
              simp [ei] at e2
              rw [e2]
          have hz : (x, some i) ∈ N'.zip cap := by
            refine List.mem_of_getElem? (i := j) ?_
            rw [List.getElem?_zip_eq_some]
            exact ⟨e1', ec⟩
          obtain ⟨hN, hf, hk⟩ := ck.cap _ hz i rfl
          obtain ⟨m, hn, hlo⟩ := I3.loc
          obtain ⟨u, r, lk⟩ := hlo i x v hN e2' (by rcases hk with z | z; exact .inr (.inl z); exact .inr (.inr z))
          refine ⟨u, r, .inr ⟨?_, ?_⟩⟩
          · exact relabel_free hf
          · rcases lk with ⟨z, _⟩ | ⟨_, c, hcx, hcell⟩
            · have z' : X.env.scope.names.lookup x = some .local := z
              rcases hk with q | q
              · rw [q] at z'; cases z'
              · rw [q] at z'; cases z'
            · obtain ⟨c', hc'⟩ := clOf_has (cells := X.env.cells) scope.names [] x hf
              have := subc x c' hc'
              rw [hcx] at this; cases this
              obtain ⟨ob, e, d⟩ := hcell
              rw [hs3h] at e
              exact ⟨c, hc', ob, old c ob e, d⟩
    · obtain ⟨v, ob, e', d⟩ := I3.cell x c (subc x c e)
      rw [hs3h] at e'
      exact ⟨v, ob, old c ob e', d⟩
    · refine I3.hok.fresh ?_
      rw [hs3h]; exact Nat.le_refl _
    · have hp' : p ∈ X.pn ++ pins := (List.mem_append.mp hp).elim (fun z => z) (fun z => nomatch z)
      obtain ⟨e, n, ne, nf, d⟩ := I3.pin p hp'
      rw [hs3h] at e
      refine ⟨old _ _ e, n, Nat.ne_of_lt (Heap.lt_size e), fun z => ?_, d⟩
      rcases List.mem_cons.mp (I3.stkSub _ z) with q | q
      · exact ne q
      · exact nf q
    · have := I3.hok.kept (h' := h₁) (fun b u q => old b u (by rw [← hs3h]; exact q))
      exact this b o e
    · show (cap.map _).length = N'.length
      rw [List.length_map, ck.len]
  have stat : ∀ {H' : Hp}, (∀ b ∈ fp, H' b = none) → ∀ b ∈ fp, FpOk Y [] H' b := fun {H'} hn b hb => by
    refine ⟨hn b hb, (hYok.exf b hb).1, hYok.exfs b hb, .inl hb, (hYok.exf b hb).2, fun p hp => ?_⟩
    have hp' : p ∈ X.pn ++ pins := (List.mem_append.mp hp).elim (fun z => z) (fun z => nomatch z)
    exact (f2 b hb).2.2.2.2.2 p hp'
  have st1 : tn 0 h₁ := T.keep 0 _ _ st2 fun b hb o e => old b o (old2 b o e)
  have loop : codeAny (model X.prog X.w) X.A (.compLoop (.ListComp elt [⟨tg, iter, [], 0⟩, ⟨tg1, iter1, o.toList, 0⟩] scope pos) 0 (.ref it) (.ref l) Y.env) (compPost (model X.prog X.w) X.A X.xe use Q0 (.ref l) P2.objs.size) { s2 with heap := h₁, toks := s2.toks } := by
    refine two_loop0 (fun n s' => ∃ i acc σ' H', Inv Y [] σ' H' s' ∧ tn i s'.heap ∧ (∀ b ∈ fp, H' b = none) ∧ W i n acc σ' H') ?_ m0 ⟨0, [], _, H3, hYi, st1, fp3, w0⟩ (hs1 _)
    rintro n s4 ⟨i, acc, σ4, H4, I4, st4, fr4, w4⟩
    obtain ⟨hlst, q4⟩ := turn i n acc σ4 H4 w4
    rcases q4 with ⟨stop, qn⟩ | ⟨go, step⟩
    · refine thn (T.done Y rfl rfl rfl hc i [] s4 σ4 H4 Y.xe I4 (stat fr4) st4 stop) fun r s5 ⟨hr, I5⟩ => ?_
      subst hr
      obtain ⟨m, hn, _⟩ := id I5.loc
      have un : Un (frs X.stack) fp H3 H4 s3.heap s5.heap := I5.base
      have sz3 : s3.heap.objs.size ≤ P2.objs.size := by rw [hs3h]; exact Nat.le_refl _
      have IX : Inv X pins σ H4 s5 := I3.call' (ch := fp) I5.os un I5.hok I5.bare fun b hb => ⟨(f2 b hb).2.2.2.1, (f2 b hb).2.1, (f2 b hb).2.2.2.2.1, (f2 b hb).2.2.2.2.2⟩
      exact fin l P2.objs.size H4 s5 m IX qn hn (I3.fpOk sz3 I5.free)
    · refine thn (T.item Y rfl rfl rfl hc i [] s4 σ4 H4 Y.xe I4 (stat fr4) st4 go) fun r s5 ⟨u, hr, h5⟩ => ?_
      subst hr
      refine thn h5 fun _ s6 ⟨x, H6, I6, r6, y6, st6, fr6⟩ => ?_
      have I6' := I6.pinned (stat fr6) (T.obj _ _ st6)
      refine thn (hg _ _ _ _ _ _ s6 σ4 H6 x u _ I6' r6 (step x H6 y6)) fun _ s7 ⟨σ7, H7, I7, q7⟩ => ?_
      have again : ∀ {σ9 : St} {H9 : Hp} {s9 : Shared} {acc9 : List V}, Inv Y ([] ++ pinsAt fp s6.heap) σ9 H9 s9 → (∃ m', m' < n ∧ W (i + 1) m' acc9 σ9 H9) → ∃ m, m < n ∧ ∃ i acc σ' H', Inv Y [] σ' H' s9 ∧ tn i s9.heap ∧ (∀ b ∈ fp, H' b = none) ∧ W i m acc σ' H' := fun {σ9 H9 s9 acc9} I9 ⟨m', hm, w9⟩ => by
        refine ⟨m', hm, i + 1, acc9, σ9, H9, I9.unpinned, T.keep _ _ _ st6 fun b hb o e => (I9.pin (b, o) (List.mem_append_right _ (List.mem_append_right _ (mem_pinsAt hb e)))).1, fun b hb => ?_, w9⟩
        obtain ⟨o, e, d⟩ := T.obj _ _ st6 b hb
        exact (I9.pin (b, o) (List.mem_append_right _ (List.mem_append_right _ (mem_pinsAt hb e)))).2.1
      generalize ([] ++ pinsAt fp s6.heap : List (Addr × Obj)) = pz at again I7
      refine thn (hi1 _ _ _ _ _ _ s7 σ7 H7 _ I7 q7) fun v1 s8 h8 => thn h8 fun itv1 s9 h9 => ?_
      obtain ⟨it1, fp1, tn1, J1, H9, e1, I9, T1, st9, f9, W1, ⟨m1, w1⟩, turn1⟩ := h9
      subst e1
      have stat1 : ∀ {H' : Hp}, (∀ b ∈ fp1, H' b = none) → ∀ b ∈ fp1, FpOk Y pz H' b := fun hn b hb => ⟨hn b hb, (f9 b hb).2⟩
      have loop1 : codeAny (model X.prog X.w) X.A (.compLoop (.ListComp elt [⟨tg, iter, [], 0⟩, ⟨tg1, iter1, o.toList, 0⟩] scope pos) 1 (.ref it1) (.ref l) Y.env) (fun r z => match r with | .ok _ => ∃ m, m < n ∧ ∃ i acc σ' H', Inv Y [] σ' H' z ∧ tn i z.heap ∧ (∀ b ∈ fp, H' b = none) ∧ W i m acc σ' H' | .error _ => False) s9 := by
        refine two_loop1 (fun n s' => ∃ i acc σ' H', Inv Y pz σ' H' s' ∧ tn1 i s'.heap ∧ (∀ b ∈ fp1, H' b = none) ∧ W1 i n acc σ' H') ?_ m1 ⟨0, acc, σ7, H9, I9, st9, fun b hb => (f9 b hb).1, w1⟩
        rintro k t4 ⟨j, ac, τ4, G4, K4, u4, v4, z4⟩
        obtain ⟨glst, p4⟩ := turn1 j k ac τ4 G4 z4
        rcases p4 with ⟨stop1, pn⟩ | ⟨go1, step1⟩
        · refine thn (T1.done Y rfl rfl rfl hc j pz t4 τ4 G4 Y.xe K4 (stat1 v4) u4 stop1) fun r t5 ⟨hr, K5⟩ => ?_
          subst hr
          exact again K5 pn
        · refine thn (T1.item Y rfl rfl rfl hc j pz t4 τ4 G4 Y.xe K4 (stat1 v4) u4 go1) fun r t5 ⟨u, hr, h5⟩ => ?_
          subst hr
          refine thn h5 fun _ t6 ⟨y, G6, K6, e6, d6, u6, v6⟩ => ?_
          have K6' := K6.pinned (stat1 v6) (T1.obj _ _ u6)
          refine thn (hg1 _ _ _ _ _ _ t6 τ4 G6 y u _ K6' e6 (step1 y G6 d6)) fun _ t7 ⟨τ7, G7, K7, p7⟩ => ?_
          refine tst_mono (ht _ _ _ _ _ _ t7 τ7 G7 _ K7 p7) fun b t8 ⟨G8, K8, p8⟩ => ?_
          have again1 : ∀ {τ9 : St} {G9 : Hp} {t9 : Shared} {ac9 : List V}, Inv Y (pz ++ pinsAt fp1 t6.heap) τ9 G9 t9 → (∃ m', m' < k ∧ W1 (j + 1) m' ac9 τ9 G9) → ∃ m, m < k ∧ ∃ i acc σ' H', Inv Y pz σ' H' t9 ∧ tn1 i t9.heap ∧ (∀ b ∈ fp1, H' b = none) ∧ W1 i m acc σ' H' := fun {τ9 G9 t9 ac9} K9 ⟨m', hm, z9⟩ => by
            refine ⟨m', hm, j + 1, ac9, τ9, G9, K9.unpinned, T1.keep _ _ _ u6 fun b hb o e => (K9.pin (b, o) (List.mem_append_right _ (List.mem_append_right _ (mem_pinsAt hb e)))).1, fun b hb => ?_, z9⟩
            obtain ⟨o, e, d⟩ := T1.obj _ _ u6 b hb
            exact (K9.pin (b, o) (List.mem_append_right _ (List.mem_append_right _ (mem_pinsAt hb e)))).2.1
          cases b with
          | false =>
            rw [if_neg Bool.false_ne_true] at p8 ⊢
            exact again1 K8 p8
          | true =>
            rw [if_pos rfl] at p8 ⊢
            refine thn (he _ _ _ _ _ _ t8 τ7 G8 _ K8 p8) fun yv t9 ⟨yy, G9, K9, e9, hl9, hz9, p9⟩ => ?_
            refine thn (mt_append (X := Y) _ t9 τ7 G9 (.ref l) [yy] (.ref l) [yv] (fun _ H' => H' = upd G9 l (.lst (ac ++ [yy]))) K9 rfl (.cons e9 .nil) ⟨l, ac, yy, rfl, rfl, hl9, hz9, rfl⟩) fun _ t10 ⟨_, G10, K10, _, e10⟩ => ?_
            subst e10
            exact again1 K10 p9
      exact comp_start1 loop1 (T1.self X.A 0 _ _ _ st9 loop1)
  exact codeAny_compStart_list loop (T.self X.A 0 _ _ _ st1 loop)
theorem pe_lc2 {X : Cx} {elt tg iter tg1 iter1 : Expr} {o : Option Expr} {scope : Scope} {pos : Pos} {wi wi1 : TI} {g g1 : TG} {tt : TT} {te : TE} {N' : List Str} {cap : List (Option Nat)}
    (hc : X.calm = true) (hi : PI X tg iter wi) (ck : CapOk X.N N' X.env.scope scope cap)
    (hg : ∀ C s₀ H₀ fp pins, PG (cxComp X N' scope C s₀ H₀ fp pins) tg g)
    (hi1 : ∀ C s₀ H₀ fp pins, PI (cxComp X N' scope C s₀ H₀ fp pins) tg1 iter1 wi1)
    (hg1 : ∀ C s₀ H₀ fp pins, PG (cxComp X N' scope C s₀ H₀ fp pins) tg1 g1)
    (ht : ∀ C s₀ H₀ fp pins, PTo (cxComp X N' scope C s₀ H₀ fp pins) o tt)
    (he : ∀ C s₀ H₀ fp pins, PE (cxComp X N' scope C s₀ H₀ fp pins) elt te)
    (hs : ∀ x, foldedSetIterable iter X.env x = pure x := by intro _; rfl)
    (hs1 : ∀ C x, foldedSetIterable iter1 (compEnvC scope (clOf X.env.cells scope.names []) C X.env) x = pure x := by intro _ _; rfl) :
    PE X (.ListComp elt [⟨tg, iter, [], 0⟩, ⟨tg1, iter1, o.toList, 0⟩] scope pos) (tLC2 cap wi g wi1 g1 tt te) := by
  intro pins s σ H Q I h
  rw [eval_ListComp]
  exact lc_core2 (use := none) hc hi ck hg hi1 hg1 ht he hs hs1 I h fun l C H4 s5 m I5 q hn f => ⟨m, hn, fun h' sb => ⟨.ref l, H4, I5.gone f sb, rfl, q⟩⟩
end L2
end
section
set_option maxHeartbeats 4000001
namespace Own
open PySem PySem.Spec PyProof.Rows
abbrev IsZipC (h : Heap) (z TI TO : Addr) (own : Value) (c : Bool) : Prop := h.get? z = some { cls := .type "zip", dict := none, data := .fields #[own, .bool c, .bool false, .ref TI, .ref TO], slots := #[] }
section
variable {prog : Program} {w : World} {A : Around} {E : Value → Shared → Prop} {s : Shared} {z TI TO i1 i2 : Addr} {f1 f2 : List Addr} {n1 n2 k : Nat} {P1 P2 : Nat → Value → Prop} {S1 S2 : Nat → Heap → Prop} {a b : Value}
theorem dead_load {a : Addr} {Q : Option Obj → Shared → Prop} (ho : s.heap.get? a = none) (h : Q none s) : wpAny (model prog w) A (loadIfAlive a) Q E s := by
  have h' : Q (s.heap.get? a) s := ho.symm ▸ h
  exact fun _ _ _ => h'
theorem zip_free {α : Type} {t : Addr} {c : Bool} {f : Bool → Sem α} {Q : α → Shared → Prop} (hz : IsZipN s.heap z TI TO t c) (ho : s.heap.get? t = none) (h : wpAny (model prog w) A (f true) Q E s) :
    wpAny (model prog w) A (Builtin.SmallTypes.ownedTupleIsFree (.ref z) >>= f) Q E s := by
  refine wpAny_bind ?_; unfold Builtin.SmallTypes.ownedTupleIsFree
  refine rf 0 hz rfl rfl ?_
  show wpAny _ _ (loadIfAlive ((t : Int).toNat) >>= _) _ _ _
  rw [Int.toNat_natCast]
  refine wpAny_bind (dead_load ho ?_)
  simp only [Option.isNone_none, if_true]
  exact wpAny_pure h
theorem zip_stepD (S : Sep z TI TO i1 i2 f1 f2) (D1 : Draws prog w A i1 f1 n1 P1 S1) (D2 : Draws prog w A i2 f2 n2 P2 S2) {Q : Value → Shared → Prop}
    {t : Addr} {c1 : Bool} (hz : IsZipN s.heap z TI TO t c1) (hn : s.heap.get? t = none) (hI : IsPair s.heap TI (.ref i1) (.ref i2)) (hO : IsPair s.heap TO a b) (d1 : S1 k s.heap) (d2 : S2 k s.heap) (l1 : k < n1) (l2 : k < n2)
    (h : ∀ x y h' tk, P1 k x → P2 k y → IsZip h' z TI TO (rawInt s.heap.objs.size) → IsPair h' TO x y → S1 (k + 1) h' → S2 (k + 1) h' → IsPair h' s.heap.objs.size x y →
      (∀ c o, c ∉ [z, TO, i1, i2] → s.heap.get? c = some o → h'.get? c = some o) → Q (.ref s.heap.objs.size) { s with heap := h', toks := tk }) :
    wpAny (model prog w) A (Builtin.«zip.__next__» ⟨[.ref z], []⟩) (fun r s' => ∃ v, r = .done (.ret v) ∧ Q v s') E s := by
  have nd := S.all
  simp only [List.nodup_cons, List.mem_cons, List.not_mem_nil, or_false, not_or] at nd
  obtain ⟨⟨zI, zO, z1, z2⟩, ⟨IO, I1, I2⟩, ⟨O1, O2⟩, n12, _⟩ := nd
  refine rf 2 hz rfl rfl (rf 3 hz rfl rfl (wpAny_bind (wpAny_seqItems hI rfl (zip_free hz hn ?_))))
  rw [if_pos rfl]
  refine wpAny_bind (wpAny_rule (rf 4 hz rfl rfl (wpAny_bind (wpAny_setField_rec hz (show 0 < 5 by decide) fun ha za sa => wpAny_bind ?_))))
  have za' : IsZipC ha z TI TO .ellipsis c1 := za; simp only [List.zipIdx_cons, List.zipIdx_nil, List.forIn_cons, List.forIn_nil]
  refine wpAny_bind (wpAny_bind (wpAny_onRaise (wpAny_bind (D1.item k _ _ _ l1 (D1.frame _ _ _ d1 fun c hc o e => (sa.2 c fun q => S.z1 (q ▸ hc)).trans e) fun x hb tb px db sb => wpAny_pure ?_))))
  have Ob : IsPair hb TO a b := (sb.2 TO O1).trans ((sa.2 TO (Ne.symm zO)).trans hO)
  refine wpAny_bind (wpAny_seqItems Ob rfl (wpAny_bind (wpAny_updateSeq_pair Ob fun hc Oc sc => wpAny_bind (wpAny_letGo (wpAny_pure ?_)))))
  have Oc' : IsPair hc TO x b := Oc
  have st2 : S2 k hc := D2.frame _ _ _ d2 fun c hm o e => (sc.2 c fun q => S.t2 (q ▸ hm)).trans ((sb.2 c fun q => S.o2 (q ▸ hm)).trans ((sa.2 c fun q => S.z2 (q ▸ hm)).trans e))
  refine wpAny_bind (wpAny_bind (wpAny_onRaise (wpAny_bind (D2.item k _ _ _ l2 st2 fun y hd td py dd sd => wpAny_pure ?_))))
  have Od : IsPair hd TO x b := (sd.2 TO O2).trans Oc'
  refine wpAny_bind (wpAny_seqItems Od rfl (wpAny_bind (wpAny_updateSeq_pair Od fun he Oe se => wpAny_bind (wpAny_letGo (wpAny_pure (wpAny_pure ?_))))))
  have Oe' : IsPair he TO x y := Oe
  refine wpAny_bind (wpAny_seqItems Oe' rfl (wpAny_bind (wpAny_newTuple (wpAny_bind ?_))))
  have sz : he.objs.size = s.heap.objs.size := by rw [se.1, sd.1, sc.1, sb.1, sa.1]
  have ze : IsZipC he z TI TO .ellipsis c1 := (se.2 z zO).trans ((sd.2 z z2).trans ((sc.2 z zO).trans ((sb.2 z z1).trans za')))
  have zn : he.objs.size ≠ z := Nat.ne_of_gt (Heap.lt_size ze)
  unfold Builtin.SmallTypes.ownedTupleHandOut; refine wpAny_bind (wpAny_setField_rec (Heap.get?_push_of_some _ ze) (show 0 < 5 by decide) fun hf zf sf => wpAny_setField_rec zf (show 1 < 5 by decide) fun hg zg sg => wpAny_pure ⟨_, rfl, ?_⟩)
  have up : ∀ c o, c ≠ z → he.get? c = some o → hg.get? c = some o := fun c o q e => (sg.2 c q).trans ((sf.2 c q).trans (Heap.get?_push_of_some _ e))
  have new : IsPair hg he.objs.size x y := (sg.2 _ zn).trans ((sf.2 _ zn).trans (Heap.get?_push_size _ rfl))
  have zg' : IsZip hg z TI TO (rawInt he.objs.size) := zg
  rw [sz] at new zg'
  show Q (.ref he.objs.size) _
  rw [sz]
  refine h x y hg td px py zg' (up _ _ (Ne.symm zO) Oe') ?_ ?_ new fun c o hc e => ?_
  · exact D1.frame _ _ _ db fun c hm o e => up c o (fun q => S.z1 (q ▸ hm)) ((se.2 c fun q => S.t1 (q ▸ hm)).trans ((sd.2 c fun q => S.o1 (q ▸ hm)).trans ((sc.2 c fun q => S.t1 (q ▸ hm)).trans e)))
  · exact D2.frame _ _ _ dd fun c hm o e => up c o (fun q => S.z2 (q ▸ hm)) ((se.2 c fun q => S.t2 (q ▸ hm)).trans e)
  · simp only [List.mem_cons, List.not_mem_nil, or_false, not_or] at hc
    obtain ⟨c1, c2, c3, c4⟩ := hc
    exact up c o c1 ((se.2 c c2).trans ((sd.2 c c4).trans ((sc.2 c c2).trans ((sb.2 c c3).trans ((sa.2 c c1).trans e)))))
theorem zip_stopD (S : Sep z TI TO i1 i2 f1 f2) (D1 : Draws prog w A i1 f1 n1 P1 S1) {Q : Fin → Shared → Prop} {t : Addr} {c1 : Bool} (hz : IsZipN s.heap z TI TO t c1) (hn : s.heap.get? t = none) (hI : IsPair s.heap TI (.ref i1) (.ref i2)) (d1 : S1 n1 s.heap)
    (h : ∀ h' x, (∀ c o, c ∉ [z, TO, i1, i2] → s.heap.get? c = some o → h'.get? c = some o) → (∃ o, h'.get? x = some o ∧ o.cls = .type "StopIteration") → E (.ref x) { s with heap := h' }) : wpAny (model prog w) A (Builtin.«zip.__next__» ⟨[.ref z], []⟩) Q E s := by
  have nd := S.all
  simp only [List.nodup_cons, List.mem_cons, List.not_mem_nil, or_false, not_or] at nd
  obtain ⟨⟨zI, zO, z1, z2⟩, ⟨IO, I1, I2⟩, ⟨O1, O2⟩, n12, _⟩ := nd
  refine rf 2 hz rfl rfl (rf 3 hz rfl rfl (wpAny_bind (wpAny_seqItems hI rfl (zip_free hz hn ?_))))
  rw [if_pos rfl]
  refine wpAny_bind (wpAny_rule (rf 4 hz rfl rfl (wpAny_bind (wpAny_setField_rec hz (show 0 < 5 by decide) fun ha za sa => wpAny_bind ?_))))
  have za' : IsZipC ha z TI TO .ellipsis c1 := za; simp only [List.zipIdx_cons, List.zipIdx_nil, List.forIn_cons, List.forIn_nil]
  refine wpAny_bind (wpAny_bind (wpAny_onRaise (wpAny_bind (D1.done _ _ _ (D1.frame _ _ _ d1 fun c hc o e => (sa.2 c fun q => S.z1 (q ▸ hc)).trans e) fun hb x kb ⟨ox, ex, cx⟩ => ?_))))
  have zb : IsZipC hb z TI TO .ellipsis c1 := kb z _ z1 za'
  have xz : x ≠ z := fun q => by rw [q, zb] at ex; cases ex; exact absurd (show Value.type "zip" = Value.type "StopIteration" from cx) (by decide)
  refine wpAny_setField_rec zb (show 0 < 5 by decide) fun hc _ sc => h hc x (fun c o hm e => ?_) ⟨ox, (sc.2 x xz).trans ex, cx⟩
  simp only [List.mem_cons, List.not_mem_nil, or_false, not_or] at hm
  exact (sc.2 c hm.1).trans (kb c o hm.2.2.1 ((sa.2 c hm.1).trans e))
theorem zip_stepH {t : Addr} {c : Bool} {o : Obj} (S : Sep z TI TO i1 i2 f1 f2) (D1 : Draws prog w A i1 f1 n1 P1 S1) (D2 : Draws prog w A i2 f2 n2 P2 S2) {Q : Value → Shared → Prop}
    (hz : IsZipN s.heap z TI TO t c) (ho : s.heap.get? t = some o) (hI : IsPair s.heap TI (.ref i1) (.ref i2)) (d1 : S1 k s.heap) (d2 : S2 k s.heap) (l1 : k < n1) (l2 : k < n2)
    (h : ∀ x y h' tk, P1 k x → P2 k y → IsZipN h' z TI TO t true → S1 (k + 1) h' → S2 (k + 1) h' → IsPair h' s.heap.objs.size x y →
      (∀ c o, c ∉ [z, i1, i2] → s.heap.get? c = some o → h'.get? c = some o) → Q (.ref s.heap.objs.size) { s with heap := h', toks := tk }) :
    wpAny (model prog w) A (Builtin.«zip.__next__» ⟨[.ref z], []⟩) (fun r s' => ∃ v, r = .done (.ret v) ∧ Q v s') E s := by
  have nd := S.all
  simp only [List.nodup_cons, List.mem_cons, List.not_mem_nil, or_false, not_or] at nd
  obtain ⟨⟨zI, zO, z1, z2⟩, ⟨IO, I1, I2⟩, ⟨O1, O2⟩, n12, _⟩ := nd
  refine rf 2 hz rfl rfl (rf 3 hz rfl rfl (wpAny_bind (wpAny_seqItems hI rfl (zip_held hz ho fun ha za sa => ?_))))
  rw [if_neg Bool.false_ne_true]
  refine wpAny_bind ?_
  simp only [List.forIn_toArray, List.forIn_cons, List.forIn_nil]
  refine wpAny_bind (wpAny_bind (wpAny_holding (wpAny_bind (D1.item k _ _ _ l1 (D1.frame _ _ _ d1 fun c hc o e => (sa.2 c fun q => S.z1 (q ▸ hc)).trans e) fun x hb tb px db sb => wpAny_pure (wpAny_pure ?_)))))
  have st2 : S2 k hb := D2.frame _ _ _ d2 fun c hm o e => (sb.2 c fun q => S.o2 (q ▸ hm)).trans ((sa.2 c fun q => S.z2 (q ▸ hm)).trans e)
  refine wpAny_bind (wpAny_bind (wpAny_holding (wpAny_bind (D2.item k _ _ _ l2 st2 fun y hd td py dd sd => wpAny_pure (wpAny_pure (wpAny_pure ?_))))))
  refine wpAny_bind (wpAny_newTuple (wpAny_pure ⟨_, rfl, ?_⟩) (hsz := by show 2 ≤ sizeLine; decide))
  have sz : hd.objs.size = s.heap.objs.size := by rw [sd.1, sb.1, sa.1]
  show Q (.ref hd.objs.size) _
  rw [sz]
  have zd : IsZipN hd z TI TO t true := (sd.2 z z2).trans ((sb.2 z z1).trans za)
  have new : (hd.push { cls := .type "tuple", data := .seq #[x, y] }).get? s.heap.objs.size = some { cls := .type "tuple", data := .seq #[x, y] } := by rw [← sz]; exact Heap.get?_push_size _ rfl
  refine h x y _ td px py (Heap.get?_push_of_some _ zd) ?_ ?_ new fun c o hc e => ?_
  · exact D1.frame _ _ _ db fun c hm o e => Heap.get?_push_of_some _ ((sd.2 c fun q => S.o1 (q ▸ hm)).trans e)
  · exact D2.frame _ _ _ dd fun c hm o e => Heap.get?_push_of_some _ e
  · simp only [List.mem_cons, List.not_mem_nil, or_false, not_or] at hc
    exact Heap.get?_push_of_some _ ((sd.2 c hc.2.2).trans ((sb.2 c hc.2.1).trans ((sa.2 c hc.1).trans e)))

def AnyZip (h : Heap) (z TI TO : Addr) : Prop := IsZip h z TI TO .none ∨ ∃ t c, IsZipN h z TI TO t c
theorem AnyZip.obj {h : Heap} (x : AnyZip h z TI TO) : ∃ o, h.get? z = some o ∧ o.cls = .type "zip" ∧ ∀ v, o.data ≠ .cell v := by
  rcases x with x | ⟨t, c, x⟩
  · exact ⟨_, x, rfl, fun v q => by cases q⟩
  · exact ⟨_, x, rfl, fun v q => by cases q⟩
theorem zip_stepA (S : Sep z TI TO i1 i2 f1 f2) (D1 : Draws prog w A i1 f1 n1 P1 S1) (D2 : Draws prog w A i2 f2 n2 P2 S2) {Q : Value → Shared → Prop}
    (hz : AnyZip s.heap z TI TO) (hI : IsPair s.heap TI (.ref i1) (.ref i2)) (hO : IsPair s.heap TO a b) (d1 : S1 k s.heap) (d2 : S2 k s.heap) (l1 : k < n1) (l2 : k < n2)
    (h : ∀ x y h' tk, P1 k x → P2 k y → AnyZip h' z TI TO → (∃ a b, IsPair h' TO a b) → S1 (k + 1) h' → S2 (k + 1) h' → IsPair h' s.heap.objs.size x y →
      (∀ c o, c ∉ [z, TO, i1, i2] → s.heap.get? c = some o → h'.get? c = some o) → Q (.ref s.heap.objs.size) { s with heap := h', toks := tk }) :
    wpAny (model prog w) A (Builtin.«zip.__next__» ⟨[.ref z], []⟩) (fun r s' => ∃ v, r = .done (.ret v) ∧ Q v s') E s := by
  rcases hz with hz | ⟨t, c, hz⟩
  · exact zip_step S D1 D2 hz hI hO d1 d2 l1 l2 fun x y h' tk px py zz zo q1 q2 nw kk => h x y h' tk px py (.inr ⟨_, _, zz⟩) ⟨_, _, zo⟩ q1 q2 nw kk
  · cases et : s.heap.get? t with
    | none => exact zip_stepD S D1 D2 hz et hI hO d1 d2 l1 l2 fun x y h' tk px py zz zo q1 q2 nw kk => h x y h' tk px py (.inr ⟨_, _, zz⟩) ⟨_, _, zo⟩ q1 q2 nw kk
    | some o =>
      have nd := S.all
      simp only [List.nodup_cons, List.mem_cons, List.not_mem_nil, or_false, not_or] at nd
      obtain ⟨⟨zI, zO, z1, z2⟩, ⟨IO, I1, I2⟩, ⟨O1, O2⟩, n12, _⟩ := nd
      refine zip_stepH S D1 D2 hz et hI d1 d2 l1 l2 fun x y h' tk px py zz q1 q2 nw kk => h x y h' tk px py (.inr ⟨_, _, zz⟩) ⟨_, _, kk TO _ (by simp [Ne.symm zO, O1, O2]) hO⟩ q1 q2 nw fun c o hc e => kk c o (fun m => hc ?_) e
      simp only [List.mem_cons, List.not_mem_nil, or_false] at m ⊢
      rcases m with m | m | m
      · exact .inl m
      · exact .inr (.inr (.inl m))
      · exact .inr (.inr (.inr m))
theorem zip_stopA (S : Sep z TI TO i1 i2 f1 f2) (D1 : Draws prog w A i1 f1 n1 P1 S1) {Q : Fin → Shared → Prop} (hz : AnyZip s.heap z TI TO) (hI : IsPair s.heap TI (.ref i1) (.ref i2)) (d1 : S1 n1 s.heap)
    (h : ∀ h' x, (∀ c o, c ∉ [z, TO, i1, i2] → s.heap.get? c = some o → h'.get? c = some o) → (∃ o, h'.get? x = some o ∧ o.cls = .type "StopIteration") → E (.ref x) { s with heap := h' }) : wpAny (model prog w) A (Builtin.«zip.__next__» ⟨[.ref z], []⟩) Q E s := by
  rcases hz with hz | ⟨t, c, hz⟩
  · exact zip_stop S D1 hz hI d1 h
  · cases et : s.heap.get? t with
    | none => exact zip_stopD S D1 hz et hI d1 h
    | some o => exact zip_stopN S D1 hz et hI d1 h
theorem iter_zipA {s : Shared} {E : Value → Shared → Prop} {Q : Value → Shared → Prop} (hz : AnyZip s.heap z TI TO) (h : Q (.ref z) s) : wpAny (model prog w) A (pyIter (.ref z)) Q E s := by
  obtain ⟨oz, ez, cz, _⟩ := hz.obj
  have ty : s.TypeIs (.ref z) "zip" := ⟨oz, ez, cz⟩
  exact wpAny_pyIter_slot ty F.slot_zip_iter (wpAny_call_entry F.slot_zip_iter ty F.entry_zip_iter (show wpAny _ _ (ret (.ref z)) _ _ s from wpAny_pure ⟨_, rfl, "zip", _, ty, F.slot_zip_next.lookup, h⟩) (F.args_zip_iter_1 _))

end
end Own
namespace L2
open PySem PySem.Spec PyProof.Rows Own
theorem turn_zipA {P : Program} {w : World} {K : PySem.W.Frag} {y1 : Str} {p1 : Pos} (b1 b2 : Bool) (a1 a2 z TI TO i1 i2 : Addr) (nd : [z, TI, TO, i1, i2].Nodup) :
    Turn P w K (.Name y1 p1) (Itz K b1 b2 a1 a2) [z, TI, TO, i1, i2] z (fun i h => AnyZip h z TI TO ∧ IsPair h TI (.ref i1) (.ref i2) ∧ (∃ a b, IsPair h TO a b) ∧ RIt b1 h i1 a1 i ∧ RIt b2 h i2 a2 i) where
  mem := List.mem_cons_self
  obj := fun i h ⟨hz, hI, ⟨a, b, hO⟩, h1, h2⟩ c hc => by
    simp only [List.mem_cons, List.not_mem_nil, or_false] at hc
    rcases hc with rfl | rfl | rfl | rfl | rfl
    · obtain ⟨o, e, _, d⟩ := hz.obj; exact ⟨o, e, d⟩
    · exact ⟨_, hI, fun v q => by cases q⟩
    · exact ⟨_, hO, fun v q => by cases q⟩
    · exact ⟨_, h1, fun v q => by cases q⟩
    · exact ⟨_, h2, fun v q => by cases q⟩
  keep := fun i h h' ⟨hz, hI, ⟨a, b, hO⟩, h1, h2⟩ kk => ⟨hz.imp (fun q => kk z (by simp) _ q) (fun ⟨t, c, q⟩ => ⟨t, c, kk z (by simp) _ q⟩), kk TI (by simp) _ hI, ⟨a, b, kk TO (by simp) _ hO⟩, kk i1 (by simp) _ h1, kk i2 (by simp) _ h2⟩
  item := by
    intro X hP hw hK hc i pins s σ H E I hf ⟨hz, hI, ⟨a, b, hO⟩, h1, h2⟩ ⟨xs, ys, x, y, q1, q2, hx, hy⟩
    subst hP hw hK
    obtain ⟨u1, r1, p1⟩ := I.sq q1
    obtain ⟨u2, r2, p2⟩ := I.sq q2
    obtain ⟨v1, e1, rx⟩ := r1.get hx
    obtain ⟨v2, e2, ry⟩ := r2.get hy
    have nd' := nd
    simp only [List.nodup_cons, List.mem_cons, List.not_mem_nil, or_false, not_or] at nd'
    obtain ⟨⟨zI, zO, z1, z2⟩, ⟨IO, I1, I2⟩, ⟨O1, O2⟩, n12, _⟩ := nd'
    have na1 : ∀ c ∈ [z, TI, TO, i1, i2], c ≠ a1 := fun c hm => I.sq_ne q1 (hf c hm)
    have na2 : ∀ c ∈ [z, TI, TO, i1, i2], c ≠ a2 := fun c hm => I.sq_ne q2 (hf c hm)
    have S : Sep z TI TO i1 i2 [i1, a1] [i2, a2] := ⟨nd, by simp [z1, na1 z (by simp)], by simp [O1, na1 TO (by simp)], by simp [Ne.symm n12, na1 i2 (by simp)], by simp [z2, na2 z (by simp)], by simp [O2, na2 TO (by simp)], by simp [n12, na2 i1 (by simp)]⟩
    have hd := I.ok.hd hc
    have D1 := draws (prog := X.prog) (w := X.w) (A := X.A.in1) hd b1 i1 a1 u1.toArray (p1.ne h1)
    have D2 := draws (prog := X.prog) (w := X.w) (A := X.A.in1) hd b2 i2 a2 u2.toArray (p2.ne h2)
    obtain ⟨oz, ez, cz, dz⟩ := hz.obj
    have tyz : s.TypeIs (.ref z) "zip" := ⟨oz, ez, cz⟩
    unfold pyNext
    refine wpAny_bind (wpAny_attempt (wpAny_callSpecial?_slot (name := "__next__") tyz F.slot_zip_next (wpAny_call_entry F.slot_zip_next tyz F.entry_zip_next (zip_stepA S D1 D2 hz hI hO ⟨h1, p1⟩ ⟨h2, p2⟩ (by simpa using (List.getElem?_eq_some_iff.mp e1).1) (by simpa using (List.getElem?_eq_some_iff.mp e2).1)
      fun w1 w2 h' tk hw1 hw2 zh ⟨oa, ob, Oh⟩ d1 d2 new hk => wpAny_pure ?_) (F.args_zip_next_1 _))))
    obtain rfl : v1 = w1 := Option.some.inj (e1.symm.trans (by simpa using hw1))
    obtain rfl : v2 = w2 := Option.some.inj (e2.symm.trans (by simpa using hw2))
    refine ⟨_, rfl, wpAny_pure ?_⟩
    have nz : s.heap.objs.size ≠ z := Nat.ne_of_gt (Heap.lt_size ez)
    have far : ∀ c ∈ [z, TI, TO, i1, i2], c ≠ s.heap.objs.size := fun c hm => by
      simp only [List.mem_cons, or_false, List.not_mem_nil] at hm
      rcases hm with rfl | rfl | rfl | rfl | rfl
      · exact Nat.ne_of_lt (Heap.lt_size ez)
      · exact Nat.ne_of_lt (Heap.lt_size hI)
      · exact Nat.ne_of_lt (Heap.lt_size hO)
      · exact Nat.ne_of_lt (Heap.lt_size h1)
      · exact Nat.ne_of_lt (Heap.lt_size h2)
    refine ⟨.ref s.heap.objs.size, _, I.spunN (fp := [z, TI, TO, i1, i2]) (fun c o hm q => ?_) hf (Nat.le_refl _) (pair_ok new rx ry), rfl, ⟨x, y, fun l hl => by rw [I.sq_inj hl q1]; exact hx, fun l hl => by rw [I.sq_inj hl q2]; exact hy, _, I.fresh, rfl, rfl⟩,
      ⟨zh, hk TI _ (by simp [Ne.symm zI, IO, I1, I2]) hI, ⟨_, _, Oh⟩, d1.1, d2.1⟩, fun c hm => by rw [upd_ne (far c hm), (hf c hm).1]⟩
    simp only [List.mem_cons, List.not_mem_nil, or_false, not_or] at hm
    exact hk c o (by simp [hm]) q
  done := by
    intro X hP hw hK hc i pins s σ H E I hf ⟨hz, hI, ⟨a, b, hO⟩, h1, h2⟩ ⟨xs, q1, hx⟩
    subst hP hw hK
    obtain ⟨u1, r1, p1⟩ := I.sq q1
    have nd' := nd
    simp only [List.nodup_cons, List.mem_cons, List.not_mem_nil, or_false, not_or] at nd'
    obtain ⟨⟨zI, zO, z1, z2⟩, ⟨IO, I1, I2⟩, ⟨O1, O2⟩, n12, _⟩ := nd'
    have na1 : ∀ c ∈ [z, TI, TO, i1, i2], c ≠ a1 := fun c hm => I.sq_ne q1 (hf c hm)
    have S : Sep z TI TO i1 i2 [i1, a1] [i2] := ⟨nd, by simp [z1, na1 z (by simp)], by simp [O1, na1 TO (by simp)], by simp [Ne.symm n12, na1 i2 (by simp)], by simp [z2], by simp [O2], by simp [n12]⟩
    have hsz : i = u1.toArray.size := by rw [List.size_toArray, ← r1.length, hx]
    obtain ⟨oz, ez, cz, dz⟩ := hz.obj
    have tyz : s.TypeIs (.ref z) "zip" := ⟨oz, ez, cz⟩
    unfold pyNext
    refine wpAny_bind (wpAny_attempt (wpAny_callSpecial?_slot (name := "__next__") tyz F.slot_zip_next (wpAny_call_entry F.slot_zip_next tyz F.entry_zip_next
      (zip_stopA S (draws (prog := X.prog) (w := X.w) (A := X.A.in1) (I.ok.hd hc) b1 i1 a1 u1.toArray (p1.ne h1)) hz hI ⟨by rw [← hsz]; exact h1, p1⟩ fun h' x hk ⟨o, eo, co⟩ => ?_) (F.args_zip_next_1 _))))
    refine wpAny_bind (wpAny_isInstance (T := "StopIteration") (b := true) ⟨o, eo, co⟩ isSubtype_stop (wpAny_pure ⟨rfl, I.spun (t' := s.toks) (fp := [z, TI, TO, i1, i2]) (fun c o hm q => hk c o ?_ q) hf⟩))
    simp only [List.mem_cons, List.not_mem_nil, or_false, not_or] at hm ⊢
    exact ⟨hm.1, hm.2.2.1, hm.2.2.2.1, hm.2.2.2.2⟩
  self := fun _ _ _ _ _ st h => iter_zipA st.1 h
theorem pi_zipA {X : Cx} {a b : Expr} {ta : TA} {p pos p1 : Pos} {y1 : Str} (b1 b2 : Bool) (hg : Gl X "zip") (hm : X.mg "zip" = none) (ha : PA X [a, b] ta) (hs : starEach [a, b] X.env = [(false, eval a X.env), (false, eval b X.env)] := by rfl) (hs2 : starEach [b] X.env = [(false, eval b X.env)] := by rfl) :
    PI X (.Name y1 p1) (.Call (.Name "zip" p) [a, b] [] pos) (iZip X.K b1 b2 ta) := by
  intro pins s σ H R I h
  refine Call_ (ld_blt I hg hm (u := .type "zip") (by rfl) (PyProof.Rows.callWith_type1 (thn (ha pos pins s σ H _ I h) fun us s1 ⟨vs, H1, I1, r1, q1⟩ => ?_) (by rw [hs, hs2]) (by rw [hs2]; rfl)))
  obtain ⟨a1, a2, xs, ys, rfl, hq1, hq2, q⟩ := q1
  obtain ⟨u, v, rfl, ru, rv⟩ := r1.two
  cases ru
  cases rv
  obtain ⟨its, _, pl1⟩ := I1.sq hq1
  obtain ⟨jts, _, pl2⟩ := I1.sq hq2
  refine callType_new F.called_zip (by decide) (F.typeCall_zip_2 _ _) (F.newCall_zip_2 _ _) (fun obj => F.args_object_init_3 obj _ _) F.entry_zip_new (zip_new b1 b2 a1 a2 its.toArray jts.toArray) ⟨pl1, pl2, fun h' z ⟨TI, TO, i1, i2, nd, far, hz, hI, hO, h1, h2⟩ hk => ⟨⟨_, hz, rfl⟩, ?_⟩⟩
  exact wpAny_pyIter_zip hz ⟨_, [z, TI, TO, i1, i2], _, _, H1, rfl, I1.kept (t' := s1.toks) hk, turn_zipA b1 b2 a1 a2 z TI TO i1 i2 nd, ⟨.inl hz, hI, ⟨_, _, hO⟩, h1, h2⟩, fun c hc => I1.fpOk (far c hc) (I1.hok.fresh (far c hc)), q⟩
end L2
end
section
set_option maxHeartbeats 4000001
namespace Bn
open PySem L2 Own
def nmq (p : List Nat) (i : Nat) : Nat := p.getD i 0
def callF (p : List Nat) (f : Fk) : Fk := (nmq p f.1, nmq p f.2)
theorem nmq_inj {p : List Nat} (nd : p.Nodup) {i j : Nat} (hi : i < p.length) (hj : j < p.length) (e : nmq p i = nmq p j) : i = j := by
  unfold nmq at e
  rw [List.getD_eq_getElem?_getD, List.getD_eq_getElem?_getD, List.getElem?_eq_getElem hi, List.getElem?_eq_getElem hj] at e
  have ne := List.pairwise_iff_getElem.mp (List.nodup_iff_pairwise_ne.mp nd)
  have e : p[i] = p[j] := e
  by_cases h1 : i < j
  · exact absurd e (ne i j hi hj h1)
  · by_cases h2 : j < i
    · exact absurd e.symm (ne j i hj hi h2)
    · lia
theorem nmq_mem {p : List Nat} {i : Nat} (inside : i < p.length) : nmq p i ∈ p := by
  unfold nmq
  rw [List.getD_eq_getElem?_getD, List.getElem?_eq_getElem inside]
  exact List.getElem_mem inside
theorem perm_nodup {p : List Nat} {n : Nat} (h : p.Perm (List.range n)) : p.Nodup := h.nodup_iff.mpr List.nodup_range
theorem perm_len {p : List Nat} {n : Nat} (h : p.Perm (List.range n)) : p.length = n := by rw [h.length_eq, List.length_range]
theorem nmq_lt {p : List Nat} {n : Nat} (h : p.Perm (List.range n)) {i : Nat} (hi : i < n) : nmq p i < n := List.mem_range.mp (h.mem_iff.mp (nmq_mem (by rw [perm_len h]; exact hi)))
theorem map_nm_range {p : List Nat} {n : Nat} (h : p.length = n) : (List.range n).map (nmq p) = p := by
  subst h
  apply List.ext_getElem (by simp)
  intro i h1 h2
  simp only [List.getElem_map, List.getElem_range]
  unfold nmq
  rw [List.getD_eq_getElem?_getD, List.getElem?_eq_getElem h2]; rfl
theorem map_nm_perm {p q : List Nat} {n : Nat} (hp : p.Perm (List.range n)) (hq : q.Perm (List.range n)) : (q.map (nmq p)).Perm (List.range n) := by
  have := hq.map (nmq p)
  rw [map_nm_range (perm_len hp)] at this
  exact this.trans hp
def renamedN (N : Nt) (p : List Nat) : Nt := ⟨N.lanes, N.forks.map (callF p), N.ends.map (nmq p)⟩
theorem callF_ok {p : List Nat} {n : Nat} (hp : p.Perm (List.range n)) {f : Fk} (h : f.1 < n ∧ f.2 < n ∧ f.1 ≠ f.2) : (callF p f).1 < n ∧ (callF p f).2 < n ∧ (callF p f).1 ≠ (callF p f).2 :=
  ⟨nmq_lt hp h.1, nmq_lt hp h.2.1, fun e => h.2.2 (nmq_inj (perm_nodup hp) (by rw [perm_len hp]; exact h.1) (by rw [perm_len hp]; exact h.2.1) e)⟩
theorem renamed_ok {N : Nt} (ok : N.Ok) {p : List Nat} (hp : p.Perm (List.range N.lanes)) : (renamedN N p).Ok := ⟨ok.l1, ok.l16, by
  show (N.forks.map (callF p)).length ≤ 128
  rw [List.length_map]; exact ok.fm, fun f hf => by
  obtain ⟨g, hg, rfl⟩ := List.mem_map.mp hf
  exact callF_ok hp (ok.fk g hg), map_nm_perm hp ok.en⟩
end Bn
end
section
set_option maxHeartbeats 4000001
namespace Bn
open PySem L2 Own
end Bn
end
section
set_option maxHeartbeats 4000001
namespace Bn
open PySem L2 Own
end Bn
end
section
set_option maxHeartbeats 4000001
namespace L2
open PySem PySem.Spec PyProof.Rows Own Ts
section
variable {X : Cx} {pins : List (Addr × Obj)} {σ : St} {H : Hp} {s : Shared}
theorem Inv.adopt {T : Addr} {o : HO} (I : Inv X pins σ H s) (hf : FpOk X pins H T) (new : ObjOk X.prog X.w (upd H T o) s.heap T o) : Inv X pins σ (upd H T o) s := by
  have hn := hf.1
  have J : Inv X pins σ (upd H T o) { s with heap := s.heap, gens := s.gens, drawn := s.drawn, toks := s.toks } := by
    refine I.step (ch := [T]) (fun b hb => ?_) (fun b u _ _ _ e _ => e) (fun b u _ _ _ e _ => ⟨u.slots, e⟩) (fun b u hc _ n => by rw [upd_ne fun q => hc (List.mem_singleton.mpr q)]; exact n)
      (fun b u _ e => ⟨u, e⟩) (fun b xs e => by rw [upd_ne (ne_of_none e hn)]; exact e) (fun b u x e => by rw [upd_ne (ne_of_none e hn)]; exact e) (fun b ps e => ⟨#[], by rw [upd_ne (ne_of_none e hn), e]; simp⟩) (fun m hm => hm) (fun b u e => ?_) I.bare
    · have only := List.mem_singleton.mp hb
      subst only
      exact ⟨hf.2.2.2.1, hf.2.1, hf.2.2.2.2.1, hf.2.2.2.2.2⟩
    · by_cases hb : b = T
      · subst hb; rw [upd_same] at e; cases e; exact new
      · rw [upd_ne hb] at e
        exact (I.hok b u e).stay (fun c v _ q => q) (fun c q => by rw [upd_ne (ne_of_none q hn)]; exact q) fun c xs q => by rw [upd_ne (ne_of_none q hn)]; exact q
  exact J
end
def tLstZip (K : PySem.W.Frag) (b1 b2 : Bool) (ta : TA) : TE := fun σ H Q => ta σ H fun vs H1 => ∃ a1 a2 xs ys, vs = [.ref a1, .ref a2] ∧ SqB b1 K H1 a1 xs ∧ SqB b2 K H1 a2 ys ∧ xs.length ≤ ys.length ∧ xs.length ≤ 10000 ∧
  ∀ l ts H2, Same H1 H2 → H1 l = none → H2 l = none → Zip2 H2 ts xs ys → Q (.ref l) (upd H2 l (.lst ts))
theorem pe_lstZip {X : Cx} {a b : Expr} {ta : TA} {p p2 pos pos2 : Pos} (b1 b2 : Bool) (hg : Gl X "list") (hm : X.mg "list" = none) (hg2 : Gl X "zip") (hm2 : X.mg "zip" = none) (hc : X.calm = true) (ha : PA X [a, b] ta)
    (he : starEach [Expr.Call (.Name "zip" p2) [a, b] [] pos2] X.env = [(false, eval (Expr.Call (.Name "zip" p2) [a, b] [] pos2) X.env)] := by rfl)
    (hs : starEach [a, b] X.env = [(false, eval a X.env), (false, eval b X.env)] := by rfl) (hs2 : starEach [b] X.env = [(false, eval b X.env)] := by rfl) :
    PE X (.Call (.Name "list" p) [.Call (.Name "zip" p2) [a, b] [] pos2] [] pos) (tLstZip X.K b1 b2 ta) := by
  intro pins s σ H Q I h
  refine wpAny_Call_Name_kw (ld_blt I hg hm (u := .type "list") (by rfl) (PyProof.Rows.callWith_type1 ?_ he rfl))
  rw [he]
  refine Calls.spliced_cons ?_
  refine Call_ (ld_blt I hg2 hm2 (u := .type "zip") (by rfl) (PyProof.Rows.callWith_type1 (thn (ha pos2 pins s σ H _ I h) fun us s1 ⟨vs, H1, I1, r1, q1⟩ => ?_) (by rw [hs, hs2]) (by rw [hs2]; rfl)))
  obtain ⟨a1, a2, xs, ys, rfl, hq1, hq2, hl, hz, q⟩ := q1
  obtain ⟨u, v, rfl, ru, rv⟩ := r1.two
  cases ru
  cases rv
  obtain ⟨its, rx, pl1⟩ := I1.sq hq1
  obtain ⟨jts, ry, pl2⟩ := I1.sq hq2
  have lx := rx.length
  have ly := ry.length
  refine callType_new F.called_zip (by decide) (F.typeCall_zip_2 _ _) (F.newCall_zip_2 _ _) (fun obj => F.args_object_init_3 obj _ _) F.entry_zip_new (zip_new b1 b2 a1 a2 its.toArray jts.toArray) ⟨pl1, pl2, fun h' z ⟨TI, TO, i1, i2, nd, far, hzz, hI, hO, h1, h2⟩ hk => ⟨⟨_, hzz, rfl⟩, ?_⟩⟩
  refine Calls.spliced_nil ?_
  have I2 : Inv X pins σ H1 { s1 with heap := h', toks := s1.toks } := I1.kept hk
  have fp : ∀ c ∈ [z, TI, TO, i1, i2], FpOk X pins H1 c := fun c hc => I1.fpOk (far c hc) (I1.hok.fresh (far c hc))
  have na1 : ∀ c ∈ [z, TI, TO, i1, i2], c ≠ a1 := fun c hm => I1.sq_ne hq1 (fp c hm)
  have na2 : ∀ c ∈ [z, TI, TO, i1, i2], c ≠ a2 := fun c hm => I1.sq_ne hq2 (fp c hm)
  have nd' := nd
  simp only [List.nodup_cons, List.mem_cons, List.not_mem_nil, or_false, not_or] at nd'
  obtain ⟨⟨zI, zO, z1, z2⟩, ⟨IO, iI1, iI2⟩, ⟨O1, O2⟩, n12, _⟩ := nd'
  have S : Sep z TI TO i1 i2 [i1, a1] [i2, a2] := ⟨nd, by simp [z1, na1 z (by simp)], by simp [O1, na1 TO (by simp)], by simp [Ne.symm n12, na1 i2 (by simp)], by simp [z2, na2 z (by simp)], by simp [O2, na2 TO (by simp)], by simp [n12, na2 i1 (by simp)]⟩
  have hd := I1.ok.hd hc
  have q1' : SqO b1 h' a1 its.toArray := pl1.mv fun o e => hk _ _ e
  have q2' : SqO b2 h' a2 jts.toArray := pl2.mv fun o e => hk _ _ e
  have D1 := draws (prog := X.prog) (w := X.w) (A := X.A.in1.in1.in1) hd b1 i1 a1 its.toArray (q1'.ne h1)
  have D2 := draws (prog := X.prog) (w := X.w) (A := X.A.in1.in1.in1) hd b2 i2 a2 jts.toArray (q2'.ne h2)
  have low : ∀ c ∈ [i1, a1] ++ [i2, a2], c < h'.objs.size := fun c hc => by
    obtain ⟨o1, n1, e1, _⟩ := q1'.ob
    obtain ⟨o2, n2, e2, _⟩ := q2'.ob
    simp only [List.cons_append, List.nil_append, List.mem_cons, List.not_mem_nil, or_false] at hc
    rcases hc with rfl | rfl | rfl | rfl
    · exact Heap.lt_size h1
    · exact Heap.lt_size e1
    · exact Heap.lt_size h2
    · exact Heap.lt_size e2
  have fpL : FpOk X pins H1 h'.objs.size := I2.fpOk (Nat.le_refl _) (I2.hok.fresh (Nat.le_refl _))
  refine list_zip (J := fun acc s' => ∃ (ts : List Addr) (Hk : Hp), Inv X pins σ Hk s' ∧ Same H1 Hk ∧ acc.toList = ts.map Value.ref ∧ (∀ (i : Nat) t, ts[i]? = some t → ∃ x y, xs[i]? = some x ∧ ys[i]? = some y ∧ Hk t = some (.tup [x, y])) ∧ (∀ c ∈ [z, TO, i1, i2, h'.objs.size], FpOk X pins Hk c)) S D1 D2 (by rw [List.size_toArray, List.size_toArray]; lia) hzz hI hO ⟨h1, q1'⟩ ⟨h2, q2'⟩ low ?_ ?_ ?_ ?_ ?_
  · rw [List.size_toArray]; exact Nat.le_trans (show _ ≤ 10000 by lia) (by decide)
  · rintro acc s' h2' tk x y ⟨ts, Hk, Ik, sm, ea, ht, fk⟩ lt px py new kk
    have il : acc.size < xs.length := by
      have b : acc.size < its.toArray.size := (Array.getElem?_eq_some_iff.mp px).1
      have b2 : its.toArray.size = its.length := List.size_toArray ..
      lia
    obtain ⟨u, e1, r1⟩ := rx.get (List.getElem?_eq_getElem il)
    obtain ⟨v, e2, r2⟩ := ry.get (List.getElem?_eq_getElem (show acc.size < ys.length by lia))
    have px' : its[acc.size]? = some x := by simpa using px
    have py' : jts[acc.size]? = some y := by simpa using py
    rw [px'] at e1; obtain rfl := Option.some.inj e1
    rw [py'] at e2; obtain rfl := Option.some.inj e2
    have nT : ∀ c ∈ [z, TO, i1, i2, h'.objs.size], c ≠ s'.heap.objs.size := fun c hc => by
      simp only [List.mem_cons, List.not_mem_nil, or_false] at hc
      rcases hc with rfl | rfl | rfl | rfl | rfl
      · exact Nat.ne_of_lt (Nat.lt_trans (Heap.lt_size hzz) lt)
      · exact Nat.ne_of_lt (Nat.lt_trans (Heap.lt_size hO) lt)
      · exact Nat.ne_of_lt (Nat.lt_trans (Heap.lt_size h1) lt)
      · exact Nat.ne_of_lt (Nat.lt_trans (Heap.lt_size h2) lt)
      · exact Nat.ne_of_lt lt
    have fk4 : ∀ c ∈ [z, TO, i1, i2], FpOk X pins Hk c := fun c hc => fk c (by simp only [List.mem_cons, List.not_mem_nil, or_false] at hc ⊢; rcases hc with m | m | m | m <;> simp [m])
    have fr : Hk s'.heap.objs.size = none := Ik.fresh
    have al : acc.size = ts.length := by rw [← Array.length_toList, ea, List.length_map]
    refine ⟨ts ++ [s'.heap.objs.size], _, Ik.spunN (fp := [z, TO, i1, i2]) kk fk4 (Nat.le_refl _) (pair_ok new r1 r2), sm.trans (same_new fr _), by rw [Array.toList_push, ea, List.map_append]; rfl, fun i t hi => ?_, fun c hc => ⟨by rw [upd_ne (nT c hc)]; exact (fk c hc).1, (fk c hc).2⟩⟩
    by_cases q : i < ts.length
    · rw [List.getElem?_append_left q] at hi
      obtain ⟨x', y', a1', a2', a3'⟩ := ht i t hi
      exact ⟨x', y', a1', a2', same_new fr _ _ _ a3'⟩
    · have il2 := (List.getElem?_eq_some_iff.mp hi).1
      rw [List.length_append] at il2
      have il3 : i = ts.length := by simp at il2; lia
      subst il3
      rw [List.getElem?_append_right (Nat.le_refl _), Nat.sub_self] at hi
      obtain rfl : s'.heap.objs.size = t := by simpa using hi
      rw [← al]
      exact ⟨_, _, List.getElem?_eq_getElem il, List.getElem?_eq_getElem (show acc.size < ys.length by lia), upd_same⟩
  · rintro acc s' h2' tk ⟨ts, Hk, Ik, sm, ea, ht, fk⟩ kk
    exact ⟨ts, Hk, Ik.spun (fp := [z, TO, i1, i2, h'.objs.size]) kk fk, sm, ea, ht, fk⟩
  · refine ⟨[], H1, I2, Same.refl _, rfl, fun i t hi => by simp at hi, fun c hc => ?_⟩
    simp only [List.mem_cons, List.not_mem_nil, or_false] at hc
    rcases hc with rfl | rfl | rfl | rfl | rfl
    · exact fp _ (by simp)
    · exact fp _ (by simp)
    · exact fp _ (by simp)
    · exact fp _ (by simp)
    · exact fpL
  · rintro h2' tk acc c' an ⟨ts, Hk, Ik, sm, ea, ht, fk⟩ K a3
    have fL := fk h'.objs.size (by simp)
    have tl : ts.length = xs.length := by
      have : acc.size = ts.length := by rw [← Array.length_toList, ea, List.length_map]
      have b2 : its.toArray.size = its.length := List.size_toArray ..
      lia
    have vals : ∀ l : List Addr, Vals (l.map V.ref) (l.map Value.ref) := fun l => by
      induction l with
      | nil => exact .nil
      | cons x l ih => exact .cons rfl ih
    have new : ObjOk X.prog X.w (upd Hk h'.objs.size (.lst (ts.map V.ref))) h2' h'.objs.size (.lst (ts.map V.ref)) := ⟨by rw [List.length_map, tl]; exact Nat.le_trans hz (by decide), ts.map Value.ref, c', vals ts, by rw [a3, ← ea]⟩
    refine ⟨.ref _, _, Ik.adopt fL new, rfl, q h'.objs.size (ts.map V.ref) Hk sm fpL.1 fL.1 ⟨by rw [List.length_map]; exact tl, fun i t hi => ?_⟩⟩
    rw [List.getElem?_map] at hi
    obtain ⟨t', et, rfl⟩ := Option.map_eq_some_iff.mp hi
    obtain ⟨x, y, e1, e2, e3⟩ := ht i t' et
    exact ⟨t', x, y, rfl, e1, e2, e3⟩
end L2
end
section
set_option maxHeartbeats 4000001
namespace L2
open PySem PySem.Spec PyProof.Rows Own
section
variable {prog : Program} {w : World} {A : Around} {E : Value → Shared → Prop} {s : Shared}
end
section
variable {X : Cx}
end
section
variable {X : Cx}
end
end L2
end
section
set_option maxHeartbeats 4000001
namespace L2
open PySem PySem.Spec PyProof.Rows Own
section
variable {X : Cx} {tg : Expr}
end
end L2
end
section
set_option maxHeartbeats 4000001
namespace Bn
open PySem L2 Own
def pw (e : Nat) : Int := ((2 ^ e : Nat) : Int)
theorem pw_dvd {i j : Nat} (h : i ≤ j) {x : Int} (hx : pw j ∣ x) : pw i ∣ x := Int.dvd_trans (Int.natCast_dvd_natCast.mpr (Nat.pow_dvd_pow 2 h)) hx
theorem pw_succ (e : Nat) : pw (e + 1) = 2 * pw e := by unfold pw; rw [Nat.pow_succ, Int.natCast_mul]; lia
def more (cs xs : List Int) (k : Int) : List Int := (List.range cs.length).map fun i => cs.getD i 0 + k * xs.getD i 0
theorem more_len (cs xs : List Int) (k : Int) : (more cs xs k).length = cs.length := by simp [more]
theorem more_getD {cs xs : List Int} {k : Int} {i : Nat} (h : i < cs.length) : (more cs xs k).getD i 0 = cs.getD i 0 + k * xs.getD i 0 := by
  rw [List.getD_eq_getElem?_getD, List.getElem?_eq_getElem (by rw [more_len]; exact h)]
  simp [more]
theorem ext_nums {xs ys : List Int} (hl : xs.length = ys.length) (h : ∀ i, i < xs.length → xs.getD i 0 = ys.getD i 0) : xs = ys := by
  refine List.ext_getElem hl fun i h1 h2 => ?_
  have := h i h1
  rwa [List.getD_eq_getElem?_getD, List.getD_eq_getElem?_getD, List.getElem?_eq_getElem h1, List.getElem?_eq_getElem h2] at this
def Left (d n : Nat) (re xs : List Int) : Prop := ∀ i, i < n → pw (d - (re.getD i 0).toNat) ∣ xs.getD i 0
theorem left_step {d n : Nat} {re fo xs ts : List Int} {f : Nat × Nat} (h1 : f.1 < n) (h2 : f.2 < n) (lr : re.length = n) (lx : xs.length = n) (p1 : 0 ≤ re.getD f.1 0) (p2 : 0 ≤ re.getD f.2 0)
    (hm : 1 + big (re.getD f.1 0) (re.getD f.2 0) ≤ d) (L : Left d n re xs) : (2 : Int) ∣ xs.getD f.1 0 + xs.getD f.2 0 ∧ Left d n (layStep (re, fo) f).1 (stepF (xs, ts) f).1 := by
  have gl := big_l (re.getD f.1 0) (re.getD f.2 0)
  have gr := big_r (re.getD f.1 0) (re.getD f.2 0)
  generalize hmm : 1 + big (re.getD f.1 0) (re.getD f.2 0) = m at *
  have e1 : pw (d - m.toNat + 1) ∣ xs.getD f.1 0 := pw_dvd (by lia) (L f.1 h1)
  have e2 : pw (d - m.toNat + 1) ∣ xs.getD f.2 0 := pw_dvd (by lia) (L f.2 h2)
  have es : pw (d - m.toNat + 1) ∣ xs.getD f.1 0 + xs.getD f.2 0 := Int.dvd_add e1 e2
  generalize hs : xs.getD f.1 0 + xs.getD f.2 0 = S at *
  obtain ⟨q, hq⟩ := es
  rw [pw_succ] at hq
  have half : S / 2 = pw (d - m.toNat) * q := by
    have : S = 2 * (pw (d - m.toNat) * q) := by rw [hq, Int.mul_assoc]
    lia
  have half1 : (S + 1) / 2 = pw (d - m.toNat) * q := by
    have : S = 2 * (pw (d - m.toNat) * q) := by rw [hq, Int.mul_assoc]
    lia
  refine ⟨⟨pw (d - m.toNat) * q, by rw [hq, Int.mul_assoc]⟩, fun i hi => ?_⟩
  show pw (d - (((re.set f.1 _).set f.2 _).getD i 0).toNat) ∣ ((xs.set f.1 _).set f.2 _).getD i 0
  rw [set_getD (by simp [lr, hi]), set_getD (by rw [lr]; exact hi), set_getD (by simp [lx, hi]), set_getD (by rw [lx]; exact hi)]
  simp only [hs, hmm, half, half1]
  by_cases z2 : f.2 = i
  · rw [if_pos z2, if_pos z2]; exact Int.dvd_mul_right _ _
  · rw [if_neg z2, if_neg z2]
    by_cases z1 : f.1 = i
    · rw [if_pos z1, if_pos z1]; exact Int.dvd_mul_right _ _
    · rw [if_neg z1, if_neg z1]; exact L i hi
theorem more_step {n : Nat} {cs xs ts us : List Int} {k : Int} {f : Nat × Nat} (h1 : f.1 < n) (h2 : f.2 < n) (lc : cs.length = n) (lx : xs.length = n) (ev : (2 : Int) ∣ xs.getD f.1 0 + xs.getD f.2 0) :
    stepF (more cs xs k, ts) f = (more (stepF (cs, ts) f).1 (stepF (xs, us) f).1 k, (stepF (cs, ts) f).2) := by
  obtain ⟨q, hq⟩ := ev
  have c1 := more_getD (cs := cs) (xs := xs) (k := k) (i := f.1) (by lia)
  have c2 := more_getD (cs := cs) (xs := xs) (k := k) (i := f.2) (by lia)
  have sum : cs.getD f.1 0 + k * xs.getD f.1 0 + (cs.getD f.2 0 + k * xs.getD f.2 0) = cs.getD f.1 0 + cs.getD f.2 0 + 2 * (k * q) := by
    have : k * xs.getD f.1 0 + k * xs.getD f.2 0 = 2 * (k * q) := by rw [← Int.mul_add, hq, Int.mul_left_comm]
    lia
  refine Prod.ext ?_ ?_
  · refine ext_nums (by simp [stepF, more_len]) fun i hi => ?_
    have hn : i < n := by simpa [stepF, more_len, lc] using hi
    rw [more_getD (by simp [stepF, lc, hn])]
    show (((more cs xs k).set f.1 _).set f.2 _).getD i 0 = ((cs.set f.1 _).set f.2 _).getD i 0 + k * ((xs.set f.1 _).set f.2 _).getD i 0
    rw [set_getD (by simp [more_len, lc, hn]), set_getD (by simp [more_len, lc, hn]), set_getD (by simp [lc, hn]), set_getD (by rw [lc]; exact hn), set_getD (by simp [lx, hn]), set_getD (by rw [lx]; exact hn)]
    simp only [c1, c2, sum, hq]
    have hf : (2 * q) / 2 = q := by lia
    have hf1 : (2 * q + 1) / 2 = q := by lia
    by_cases z2 : f.2 = i
    · simp only [if_pos z2, hf]; lia
    · simp only [if_neg z2]
      by_cases z1 : f.1 = i
      · simp only [if_pos z1, hf1]; lia
      · simp only [if_neg z1]; exact more_getD (by lia)
  · show ts ++ [_] = ts ++ [_]
    simp only [c1, c2, sum]
    congr 2; lia
theorem more_flow {d n : Nat} {fs : List (Nat × Nat)} (ok : ∀ f ∈ fs, f.1 < n ∧ f.2 < n) {cs xs : List Int} {k : Int} (lc : cs.length = n) (lx : xs.length = n) (hd : ∀ z ∈ (lay n fs).2, z ≤ d) (L0 : Left d n (List.replicate n 0) xs) :
    ∀ i, i ≤ fs.length → flow (fs.take i) (more cs xs k) = (more (flow (fs.take i) cs).1 (flow (fs.take i) xs).1 k, (flow (fs.take i) cs).2) ∧ Left d n (lay n (fs.take i)).1 (flow (fs.take i) xs).1
  | 0, _ => ⟨by simp [flow, flowFrom], by simpa [flow, flowFrom, lay] using L0⟩
  | i + 1, hi => by
    have il : i < fs.length := by lia
    obtain ⟨ih1, ih2⟩ := more_flow ok (k := k) lc lx hd L0 i (by lia)
    have ef := List.getElem?_eq_getElem il
    have okf := ok fs[i] (List.getElem_mem il)
    have t1 := lay_tops ok i (by lia) _ okf.1
    have t2 := lay_tops ok i (by lia) _ okf.2
    have ln := lay_lens (n := n) i fs (by lia)
    have mem : 1 + big ((lay n (fs.take i)).1.getD fs[i].1 0) ((lay n (fs.take i)).1.getD fs[i].2 0) ≤ d := by
      refine hd _ ?_
      have go : ∀ j, i + 1 ≤ j → j ≤ fs.length → 1 + big ((lay n (fs.take i)).1.getD fs[i].1 0) ((lay n (fs.take i)).1.getD fs[i].2 0) ∈ (lay n (fs.take j)).2 := fun j => by
        induction j with
        | zero => intro h; lia
        | succ j ihj =>
          intro h h'
          rw [lay_take (List.getElem?_eq_getElem (show j < fs.length by lia))]
          by_cases e : i = j
          · subst e; unfold layStep; simp
          · unfold layStep; exact List.mem_append_left _ (ihj (by lia) (by lia))
      have := go fs.length (by lia) (Nat.le_refl _)
      rwa [List.take_length] at this
    rw [flow_take ef, flow_take ef, flow_take ef, lay_take ef, ih1]
    have fl := flow_len (fs.take i) xs
    have fc := flow_len (fs.take i) cs
    have st := left_step (fo := (lay n (fs.take i)).2) (ts := (flow (fs.take i) xs).2) okf.1 okf.2 ln.1 (by lia) t1.1 t2.1 mem ih2
    exact ⟨more_step (us := (flow (fs.take i) xs).2) okf.1 okf.2 (by lia) (by lia) st.1, st.2⟩
def aloneL (n lane : Nat) (m : Int) : List Int := (List.replicate n (0 : Int)).set lane m
theorem alone_len (n lane : Nat) (m : Int) : (aloneL n lane m).length = n := by simp [aloneL]
theorem alone_left (d n lane : Nat) : Left d n (List.replicate n 0) (aloneL n lane (pw d)) := fun i hi => by
  unfold aloneL
  rw [set_getD (by simp [hi])]
  have z : (List.replicate n (0 : Int)).getD i 0 = 0 := by simp [hi]
  rw [z]
  split
  · exact Int.dvd_refl _
  · exact Int.dvd_zero _
end Bn
end
section
set_option maxHeartbeats 4000001
namespace Bn
open PySem L2 Own
def blockN : Nat → List Nat → List Fk
  | 0, _ => []
  | m + 1, row => if row.length < 2 then [] else (row.take (row.length / 2)).zip row.reverse ++ blockN m (row.take (row.length / 2)) ++ blockN m (row.drop (row.length / 2))
def roundsN (k : Nat) : Nt := ⟨2 ^ k, (List.replicate k (blockN k (List.range (2 ^ k)))).flatten, List.range (2 ^ k)⟩
def rowF (size b : Nat) : List Fk := (List.range (size / 2)).map fun i => (b * size + i, b * size + size - 1 - i)
def layerF (k j : Nat) : List Fk := (List.range (2 ^ j)).flatMap (rowF (2 ^ (k - j)))
def turnF (k : Nat) : List Fk := (List.range k).flatMap (layerF k)
def dueN (k : Nat) : Nt := ⟨2 ^ k, (List.replicate k (turnF k)).flatten, List.range (2 ^ k)⟩
theorem rounds_fit : ∀ k, k < 5 → (roundsN k).forks.length ≤ 128 ∧ ∀ f ∈ (roundsN k).forks, f.1 < 2 ^ k ∧ f.2 < 2 ^ k ∧ f.1 ≠ f.2 := by decide +kernel
theorem rounds_ok {k : Nat} (h : k < 5) : (roundsN k).Ok := by
  obtain ⟨a, b⟩ := rounds_fit k h
  refine ⟨Nat.one_le_two_pow, ?_, a, b, .refl _⟩
  show 2 ^ k ≤ 2 ^ 4
  exact Nat.pow_le_pow_right (show 0 < 2 by decide) (show k ≤ 4 by lia)
theorem rounds_forks : ∀ k, k < 5 → plainF (roundsN k) = (dueN k).forks := by decide +kernel
theorem rounds_due {k : Nat} (h : k < 5) : plainN (roundsN k) = dueN k := by
  unfold plainN
  rw [rounds_forks k h]; rfl
theorem block_len : ∀ (m : Nat) (row : List Nat), (blockN m row).length ≤ m * row.length
  | 0, _ => Nat.zero_le _
  | m + 1, row => by
    unfold blockN
    split
    · exact Nat.zero_le _
    · rw [List.length_append, List.length_append, List.length_zip, List.length_take]
      have a := block_len m (row.take (row.length / 2))
      have b := block_len m (row.drop (row.length / 2))
      rw [List.length_take] at a
      rw [List.length_drop] at b
      have c : m * min (row.length / 2) row.length + m * (row.length - row.length / 2) = m * row.length := by
        rw [← Nat.mul_add]; congr 1; lia
      rw [Nat.succ_mul]
      lia
theorem prs_zip {H : Hp} {ts : List V} {a b : List Nat} (z : Zip2 H ts (nums a) (nums b)) (hl : a.length ≤ b.length) : Prs H ts (a.zip b) := by
  have tl := z.1
  rw [nums_len] at tl
  have all : ∀ (i : Nat) t, ts[i]? = some t → IsFk H t ((a.zip b).getD i (0, 0)) := fun i t ht => by
    obtain ⟨c, x, y, rfl, hx, hy, hc⟩ := z.2 i t ht
    unfold nums at hx hy
    rw [List.getElem?_map] at hx hy
    obtain ⟨x', ex, rfl⟩ := Option.map_eq_some_iff.mp hx
    obtain ⟨y', ey, rfl⟩ := Option.map_eq_some_iff.mp hy
    have both : (a.zip b)[i]? = some (x', y') := List.getElem?_zip_eq_some.mpr ⟨ex, ey⟩
    rw [List.getD_eq_getElem?_getD, both]
    exact ⟨c, rfl, hc⟩
  have mp : ts.map (decF H) = a.zip b := by
    refine List.ext_getElem? fun i => ?_
    rw [List.getElem?_map]
    cases e : ts[i]? with
    | none =>
      have il := List.getElem?_eq_none_iff.mp e
      exact (List.getElem?_eq_none_iff.mpr (by rw [List.length_zip]; lia)).symm
    | some t =>
      have il := (List.getElem?_eq_some_iff.mp e).1
      rw [Option.map_some, (all i t e).dec, List.getD_eq_getElem?_getD, List.getElem?_eq_getElem (by rw [List.length_zip]; lia)]; rfl
  rw [← mp]
  refine prs_of fun x hx => ?_
  obtain ⟨i, hi⟩ := List.mem_iff_getElem?.mp hx
  rw [(all i x hi).dec]
  exact all i x hi
end Bn
end
section
set_option maxHeartbeats 4000001
namespace L2
open PySem PySem.Spec PyProof.Rows Own
theorem lc2_zip {K : PySem.W.Frag} {b1 b2 : Bool} {a1 a2 : Addr} {xs ys : List V} (hxy : xs.length = ys.length) {g g1 : TG} {wi1 : TI} {tt : TT} {te : TE} {l : Addr} {σ : St} {H : Hp} {Q : VK} (Pv : Nat → List V → St → Hp → Prop) (h0 : Pv 0 [] σ H)
    (hl : ∀ i acc σ H, Pv i acc σ H → H l = some (.lst acc) ∧ SqB b1 K H a1 xs ∧ SqB b2 K H a2 ys)
    (hs : ∀ i acc σ H x y T, xs[i]? = some x → ys[i]? = some y → H T = none → Pv i acc σ H → g (.ref T) σ (upd H T (.tup [x, y])) fun σ3 H3 => wi1 σ3 H3 fun J1 H4 =>
      ∃ W1 : Nat → Nat → List V → St → Hp → Prop, (∃ m1, W1 0 m1 acc σ3 H4) ∧ LCW1 J1 g1 tt te l (fun ac τ G => Nx xs.length i (Pv (i + 1) ac τ G)) W1)
    (hd : ∀ acc σ H, Pv xs.length acc σ H → Q (.ref l) H) : ∃ W : Nat → Nat → List V → St → Hp → Prop, (∃ m, W 0 m [] σ H) ∧
      ∀ i m acc σ' H', W i m acc σ' H' → H' l = some (.lst acc) ∧ (((Itz K b1 b2 a1 a2).stop i H' ∧ Q (.ref l) H') ∨ ((Itz K b1 b2 a1 a2).go i H' ∧ ∀ x H2, (Itz K b1 b2 a1 a2).yld i H' x H2 → g x σ' H2 fun σ3 H3 => wi1 σ3 H3 fun J1 H4 =>
        ∃ W1 : Nat → Nat → List V → St → Hp → Prop, (∃ m1, W1 0 m1 acc σ3 H4) ∧ LCW1 J1 g1 tt te l (fun ac τ G => ∃ m', m' < m ∧ W (i + 1) m' ac τ G) W1)) := by
  refine ⟨fun i m acc σ H => m = xs.length - i ∧ i ≤ xs.length ∧ Pv i acc σ H, ⟨xs.length, by simp, Nat.zero_le _, h0⟩, ?_⟩
  rintro i m acc σ H ⟨rfl, hi, p⟩
  obtain ⟨q0, q1, q2⟩ := hl i acc σ H p
  refine ⟨q0, ?_⟩
  by_cases hlt : i < xs.length
  · refine .inr ⟨⟨xs, ys, _, _, q1, q2, List.getElem?_eq_getElem hlt, List.getElem?_eq_getElem (by lia)⟩, fun v H2 ⟨x, y, ex, ey, T, hT, e1, e2⟩ => ?_⟩
    subst e1 e2
    exact hs i acc σ H x y T (ex xs q1) (ey ys q2) hT p
  · have e : i = xs.length := by lia
    subst e
    exact .inl ⟨⟨xs, q1, rfl⟩, hd acc σ H p⟩
theorem lc1_tup {K : PySem.W.Frag} {a : Addr} {zs : List V} {g : TG} {te : TE} {l : Addr} {ac : List V} {σ : St} {H : Hp} {Q : List V → St → Hp → Prop} (Pv : Nat → List V → St → Hp → Prop) (h0 : Pv 0 ac σ H) (hl : ∀ i acc σ H, Pv i acc σ H → H l = some (.lst acc) ∧ SqT K H a zs)
    (hs : ∀ i x acc σ H, zs[i]? = some x → Pv i acc σ H → g x σ H fun σ3 H3 => te σ3 H3 fun y H5 => H5 l = some (.lst acc) ∧ acc.length < sizeLine ∧ Nx zs.length i (Pv (i + 1) (acc ++ [y]) σ3 (upd H5 l (.lst (acc ++ [y])))))
    (hd : ∀ acc σ H, Pv zs.length acc σ H → Q acc σ H) : ∃ W : Nat → Nat → List V → St → Hp → Prop, (∃ m, W 0 m ac σ H) ∧ LCW1 (Itt K a) g tYes te l Q W := by
  refine ⟨fun i m acc σ H => m = zs.length - i ∧ i ≤ zs.length ∧ Pv i acc σ H, ⟨_, rfl, Nat.zero_le _, h0⟩, ?_⟩
  rintro i m acc σ H ⟨rfl, hi, p⟩
  obtain ⟨q0, q1⟩ := hl i acc σ H p
  refine ⟨q0, ?_⟩
  by_cases hlt : i < zs.length
  · refine .inr ⟨⟨zs, zs[i], q1, List.getElem?_eq_getElem hlt⟩, fun x H2 ⟨e, y⟩ => ?_⟩
    subst e
    exact hs i x acc σ _ (y zs q1) p
  · obtain rfl : i = zs.length := by lia
    exact .inl ⟨⟨zs, q1, Nat.le_refl _⟩, hd acc σ H p⟩
def turnsV {α : Type} (xs ys : List α) : List α := (xs.zip ys).flatMap fun p => [p.1, p.2]
theorem turnsV_len {α : Type} : ∀ (xs ys : List α), xs.length = ys.length → (turnsV xs ys).length = 2 * xs.length
  | [], [], _ => rfl
  | x :: xs, y :: ys, h => by
    have h' : xs.length = ys.length := by simpa using h
    have := turnsV_len xs ys h'
    show (turnsV xs ys).length + 2 = 2 * (xs.length + 1)
    rw [this]; lia
theorem turnsV_map {α β : Type} (f : α → β) (xs ys : List α) : turnsV (xs.map f) (ys.map f) = (turnsV xs ys).map f := by
  induction xs generalizing ys with
  | nil => rfl
  | cons x xs ih =>
    cases ys with
    | nil => rfl
    | cons y ys =>
      show f x :: f y :: turnsV (xs.map f) (ys.map f) = f x :: f y :: (turnsV xs ys).map f
      rw [ih ys]
theorem fm_congr {α β : Type} {f g : α → Option β} : ∀ (l : List α), (∀ x ∈ l, f x = g x) → l.filterMap f = l.filterMap g
  | [], _ => rfl
  | x :: l, h => by
    have e := fm_congr l fun y hy => h y (List.mem_cons_of_mem _ hy)
    simp only [List.filterMap_cons, h x List.mem_cons_self, e]
def by2 {α : Type} (off : Nat) (xs : List α) : List α := (List.range ((xs.length + 1 - off) / 2)).filterMap fun k => xs[off + 2 * k]?
theorem by2_len {α : Type} (off : Nat) (ho : off ≤ 1) (xs : List α) : (by2 off xs).length = (xs.length + 1 - off) / 2 := by
  unfold by2
  have e : (List.range ((xs.length + 1 - off) / 2)).filterMap (fun k => xs[off + 2 * k]?) = (List.range ((xs.length + 1 - off) / 2)).pmap (fun k (h : k < (xs.length + 1 - off) / 2) => xs[off + 2 * k]'(by lia)) (fun k h => List.mem_range.mp h) := by
    rw [List.pmap_eq_map_attach, ← List.filterMap_eq_map]
    conv => lhs; rw [← List.attach_map_subtype_val (List.range ((xs.length + 1 - off) / 2)), List.filterMap_map]
    refine fm_congr _ fun k hk => ?_
    have := List.mem_range.mp k.2
    show xs[off + 2 * k.1]? = some _
    rw [List.getElem?_eq_getElem (by lia)]
  rw [e, List.length_pmap, List.length_range]
theorem by2_map {α β : Type} (f : α → β) (off : Nat) (xs : List α) : by2 off (xs.map f) = (by2 off xs).map f := by
  unfold by2
  rw [List.length_map, List.map_filterMap]
  refine fm_congr _ fun k _ => ?_
  rw [List.getElem?_map]
theorem vals_pick {xs : List V} {us : List Value} (r : Vals xs us) (ix : List Nat) : Vals (ix.filterMap fun k => xs[k]?) (ix.filterMap fun k => us[k]?) := by
  induction ix with
  | nil => exact .nil
  | cons i ix ih =>
    cases e : xs[i]? with
    | none =>
      have e2 : us[i]? = none := List.getElem?_eq_none_iff.mpr (by rw [← r.length]; exact List.getElem?_eq_none_iff.mp e)
      rw [List.filterMap_cons_none e, List.filterMap_cons_none e2]; exact ih
    | some x =>
      obtain ⟨u, e2, ru⟩ := r.get e
      rw [List.filterMap_cons_some e, List.filterMap_cons_some e2]; exact .cons ru ih
theorem pick_two (items : Array Value) : slicePick items none none (some 2) = ((List.range ((items.size + 1) / 2)).filterMap fun k => items.toList[2 * k]?).toArray := by
  have b : sliceBounds none none (some 2) items.size = (0, (items.size : Int), 2) := rfl
  have c : sliceRange 0 (items.size : Int) 2 = (List.range ((items.size + 1) / 2)).map fun k => 2 * k := by
    unfold sliceRange
    have h2 : (2 : Int) > 0 := by decide
    by_cases h : (0 : Int) < items.size
    · have e : (((items.size : Int) - 0 + 2 - 1) / 2).toNat = (items.size + 1) / 2 := by lia
      simp only [h2, if_true, h, e]
      apply List.map_congr_left; intro k _; lia
    · have e : items.size = 0 := by lia
      rw [e]; rfl
  unfold slicePick
  rw [b]
  show ((sliceRange 0 (items.size : Int) 2).filterMap (items[·]?)).toArray = _
  rw [c, List.filterMap_map]
  refine congrArg List.toArray (fm_congr _ fun k _ => ?_)
  simp
theorem pick_two1 (items : Array Value) : slicePick items (some 1) none (some 2) = ((List.range (items.size / 2)).filterMap fun k => items.toList[1 + 2 * k]?).toArray := by
  have b : sliceBounds (some 1) none (some 2) items.size = (max 0 (min 1 (items.size : Int)), (items.size : Int), 2) := rfl
  have c : sliceRange (max 0 (min 1 (items.size : Int))) (items.size : Int) 2 = (List.range (items.size / 2)).map fun k => 1 + 2 * k := by
    unfold sliceRange
    have h2 : (2 : Int) > 0 := by decide
    by_cases h : (1 : Int) < items.size
    · have m : max 0 (min 1 (items.size : Int)) = 1 := by lia
      rw [m]
      have e : (((items.size : Int) - 1 + 2 - 1) / 2).toNat = items.size / 2 := by lia
      simp only [h2, if_true, h, e]
      apply List.map_congr_left; intro k _; lia
    · have e : items.size = 0 ∨ items.size = 1 := by lia
      rcases e with e | e <;> rw [e] <;> rfl
  unfold slicePick
  rw [b]
  show ((sliceRange (max 0 (min 1 (items.size : Int))) (items.size : Int) 2).filterMap (items[·]?)).toArray = _
  rw [c, List.filterMap_map]
  refine congrArg List.toArray (fm_congr _ fun k _ => ?_)
  simp
def tBy2 (K : PySem.W.Frag) (te : TE) (tl ts : TO) : TE := fun σ H Q => te σ H fun x H1 => tl σ H1 fun lo H2 => ts σ H2 fun o H3 => o = some 2 ∧ ∃ off a xs, ((lo = none ∧ off = 0) ∨ (lo = some 1 ∧ off = 1)) ∧ x = .ref a ∧ SqL K H3 a xs ∧ ∀ p, H3 p = none → Q (.ref p) (upd H3 p (.lst (by2 off xs)))
theorem pe_by2 {X : Cx} {e st : Expr} {lo : Option Expr} {te : TE} {tl ts : TO} {p2 pos : Pos} (he : PE X e te) (hl : PO X lo tl) (hs : PO X (some st) ts) : PE X (.Subscript e (.Slice lo none (some st) p2) pos) (tBy2 X.K te tl ts) := by
  intro pins s σ H Q I h
  refine Subscript_ (thn (he pins s σ H _ I h) fun v s1 ⟨x, H1, I1, r1, q1⟩ => wpAny_Slice (thn (hl pins s1 σ H1 _ I1 q1) fun vl s0 ⟨ol, H0, I0, pl, q0⟩ => ?_))
  rw [evalPart_none]
  refine wpAny_pure (thn (hs pins s0 σ H0 _ I0 q0) fun vst s2 ⟨o, H2, I2, po, q2⟩ => ?_)
  obtain ⟨rfl, off, a, xs, hoff, rfl, hq, k⟩ := q2
  cases r1
  have I3 : Inv X pins σ H2 { s2 with heap := s2.heap.push { cls := .type "slice", data := .fields #[vl, .none, vst] } } := I2.kept (t' := s2.toks) fun b ob q => Heap.get?_push_of_some _ q
  obtain ⟨its, r, ht, hz⟩ := I3.list hq
  have hlen := r.length
  show wpAny (model X.prog X.w) X.A (subscriptTail e (.Slice lo none (some st) p2) (.ref a) (.ref s2.heap.objs.size)) (EP X pins σ Q) X.xe { s2 with heap := s2.heap.push { cls := .type "slice", data := .fields #[vl, .none, vst] } }
  refine tail_any (ops := [.ref a, .ref s2.heap.objs.size]) ht.isList.typeIs slot_list_getitem.lookup (wpAny_getItem_list_slice ht.isList (Heap.IsSliceOf.new ..) pl .none po (by simp) ?_ (by rw [List.size_toArray] <;> lia)) (by with_unfolding_all rfl)
  have pk : slicePick its.toArray ol none (some 2) = ((List.range ((its.length + 1 - off) / 2)).filterMap fun k => its[off + 2 * k]?).toArray := by
    rcases hoff with ⟨rfl, rfl⟩ | ⟨rfl, rfl⟩
    · rw [pick_two]; simp only [List.size_toArray, Nat.sub_zero, Nat.zero_add]
    · rw [pick_two1]; simp only [List.size_toArray, Nat.add_sub_cancel]
  rw [pk]
  have ho1 : off ≤ 1 := by rcases hoff with ⟨_, rfl⟩ | ⟨_, rfl⟩ <;> decide
  have vv : Vals (by2 off xs) ((List.range ((its.length + 1 - off) / 2)).filterMap fun k => its[off + 2 * k]?) := by
    have := vals_pick r ((List.range ((its.length + 1 - off) / 2)).map fun k => off + 2 * k)
    rw [List.filterMap_map, List.filterMap_map] at this
    unfold by2
    rw [hlen]; exact this
  refine ⟨.ref _, _, I3.laid (t' := s2.toks) (o := .lst (by2 off xs)) (fun b ob q => Heap.get?_push_of_some _ q) (Nat.le_refl _) ⟨by rw [by2_len off ho1]; lia, _, 0, vv, ?_⟩, rfl, k _ (I3.hok.fresh (Nat.le_refl _))⟩
  exact Heap.get?_push_size _ rfl
end L2
end
section
set_option maxHeartbeats 4000001
namespace L2
open PySem PySem.Spec PyProof.Rows Own
theorem FnOk.any {P : Program} {w : World} {K : PySem.W.Frag} {mg : Str → Option Value} {base : Heap} {CX : CXT} {k : Nat} {f : Addr} {fd : FuncData} {ps : List Str} {sp : Nat → Sp} (M : Nat) (F : ∀ m, m ≤ M → FnOk P w K mg base CX k f fd ps (sp m)) :
    FnOk P w K mg base CX k f fd ps (fun vs H Q E => ∃ m, m ≤ M ∧ sp m vs H Q E) :=
  ⟨fun vs H Q E ⟨m, hm, q⟩ => (F m hm).len vs H Q E q, fun A outer s H args us vs Q E hr he hb hv ⟨m, hm, q⟩ => (F m hm).run A outer s H args us vs Q E hr he hb hv q⟩
end L2
namespace Bn
open PySem L2 Own
def treeN : Nat → List Nat → List Fk × List Nat
  | 0, row => ([], row)
  | m + 1, row => ((row.getD 0 0, row.getD (row.length / 2) 0) :: ((treeN m (row.take (row.length / 2))).1 ++ (treeN m (row.drop (row.length / 2))).1), turnsV (treeN m (row.take (row.length / 2))).2 (treeN m (row.drop (row.length / 2))).2)
def mergeN : Nat → List Nat → List Nat → List Fk × List Nat
  | 0, a, b => (a.zip b, a ++ b)
  | m + 1, a, b => ((mergeN m (by2 0 a) (by2 1 b)).1 ++ (mergeN m (by2 1 a) (by2 0 b)).1 ++ (mergeN m (by2 0 a) (by2 1 b)).2.zip (mergeN m (by2 1 a) (by2 0 b)).2, turnsV (mergeN m (by2 0 a) (by2 1 b)).2 (mergeN m (by2 1 a) (by2 0 b)).2)
def stairN : Nat → List Nat → List Fk × List Nat
  | 0, row => ([], row)
  | m + 1, row => ((stairN m (row.take (row.length / 2))).1 ++ (stairN m (row.drop (row.length / 2))).1 ++ (mergeN m (stairN m (row.take (row.length / 2))).2 (stairN m (row.drop (row.length / 2))).2).1, (mergeN m (stairN m (row.take (row.length / 2))).2 (stairN m (row.drop (row.length / 2))).2).2)
theorem two_half {m n : Nat} (h : n = 2 ^ (m + 1)) : n / 2 = 2 ^ m ∧ n - n / 2 = 2 ^ m ∧ n / 2 ≤ n := by
  rw [Nat.pow_succ] at h; lia
theorem half_len {m : Nat} {row : List Nat} (h : row.length = 2 ^ (m + 1)) : (row.take (row.length / 2)).length = 2 ^ m ∧ (row.drop (row.length / 2)).length = 2 ^ m := by
  obtain ⟨a, b, c⟩ := two_half h
  rw [List.length_take, List.length_drop]
  exact ⟨by rw [Nat.min_eq_left c]; exact a, b⟩
theorem by2_half {α : Type} {m : Nat} {a : List α} (h : a.length = 2 ^ (m + 1)) : (by2 0 a).length = 2 ^ m ∧ (by2 1 a).length = 2 ^ m := by
  rw [by2_len 0 (by decide), by2_len 1 (by decide), h, Nat.pow_succ]
  lia
theorem tree_len : ∀ (m : Nat) (row : List Nat), row.length = 2 ^ m → (treeN m row).2.length = 2 ^ m ∧ (treeN m row).1.length + 1 = 2 ^ m
  | 0, row, h => ⟨h, rfl⟩
  | m + 1, row, h => by
    obtain ⟨a, b⟩ := half_len h
    obtain ⟨x1, x2⟩ := tree_len m _ a
    obtain ⟨y1, y2⟩ := tree_len m _ b
    show (turnsV _ _).length = _ ∧ (_ :: (_ ++ _)).length + 1 = _
    rw [turnsV_len _ _ (x1.trans y1.symm), List.length_cons, List.length_append, x1, Nat.pow_succ]
    exact ⟨by lia, by lia⟩
theorem merge_len : ∀ (m : Nat) (a b : List Nat), a.length = 2 ^ m → b.length = 2 ^ m → (mergeN m a b).2.length = 2 ^ (m + 1) ∧ (mergeN m a b).1.length = (m + 1) * 2 ^ m
  | 0, a, b, ha, hb => by
    show (a ++ b).length = _ ∧ (a.zip b).length = _
    rw [List.length_append, List.length_zip, ha, hb]; exact ⟨rfl, rfl⟩
  | m + 1, a, b, ha, hb => by
    obtain ⟨a0, a1⟩ := by2_half ha
    obtain ⟨b0, b1⟩ := by2_half hb
    obtain ⟨x1, x2⟩ := merge_len m _ _ a0 b1
    obtain ⟨y1, y2⟩ := merge_len m _ _ a1 b0
    show (turnsV _ _).length = _ ∧ (_ ++ _ ++ List.zip _ _).length = _
    rw [turnsV_len _ _ (x1.trans y1.symm), List.length_append, List.length_append, List.length_zip, x1, y1, x2, y2, Nat.min_self]
    have e : (m + 1) * 2 ^ m + (m + 1) * 2 ^ m = (m + 1) * 2 ^ (m + 1) := by rw [← Nat.two_mul, Nat.pow_succ, Nat.mul_left_comm, Nat.mul_comm 2 (2 ^ m)]
    refine ⟨by rw [Nat.pow_succ 2 (m + 1), Nat.mul_comm], ?_⟩
    rw [e, ← Nat.succ_mul]
def stairL : Nat → Nat
  | 0 => 0
  | m + 1 => stairL m + stairL m + (m + 1) * 2 ^ m
theorem stairL_small : ∀ m, m ≤ 10 → stairL m ≤ 100000 ∧ (m + 1) * 2 ^ m ≤ 20000 := by decide +kernel
theorem stair_len : ∀ (m : Nat) (row : List Nat), row.length = 2 ^ m → (stairN m row).2.length = 2 ^ m ∧ (stairN m row).1.length = stairL m
  | 0, row, h => ⟨h, rfl⟩
  | m + 1, row, h => by
    obtain ⟨a, b⟩ := half_len h
    obtain ⟨x1, x2⟩ := stair_len m _ a
    obtain ⟨y1, y2⟩ := stair_len m _ b
    obtain ⟨z1, z2⟩ := merge_len m _ _ x1 y1
    refine ⟨z1, ?_⟩
    show (List.append (List.append _ _) _).length = stairL m + stairL m + (m + 1) * 2 ^ m
    rw [List.append_eq, List.append_eq, List.length_append, List.length_append, z2, x2, y2]
def treeW (k : Nat) : Nt := ⟨2 ^ k, (treeN k (List.range (2 ^ k))).1, (treeN k (List.range (2 ^ k))).2⟩
def stairW (k : Nat) : Nt := ⟨2 ^ k, (stairN k (List.range (2 ^ k))).1, (stairN k (List.range (2 ^ k))).2⟩
def mergeW (m : Nat) : Nt := ⟨2 ^ (m + 1), (mergeN m ((List.range (2 ^ (m + 1))).take (2 ^ m)) ((List.range (2 ^ (m + 1))).drop (2 ^ m))).1, (mergeN m ((List.range (2 ^ (m + 1))).take (2 ^ m)) ((List.range (2 ^ (m + 1))).drop (2 ^ m))).2⟩
theorem tree_fit : ∀ k, k < 5 → (treeW k).forks.length ≤ 128 ∧ (∀ f ∈ (treeW k).forks, f.1 < 2 ^ k ∧ f.2 < 2 ^ k ∧ f.1 ≠ f.2) ∧ (treeW k).ends.Perm (List.range (2 ^ k)) := by decide +kernel
theorem stair_fit : ∀ k, k < 5 → (stairW k).forks.length ≤ 128 ∧ (∀ f ∈ (stairW k).forks, f.1 < 2 ^ k ∧ f.2 < 2 ^ k ∧ f.1 ≠ f.2) ∧ (stairW k).ends.Perm (List.range (2 ^ k)) := by decide +kernel
theorem merge_fit : ∀ m, m < 4 → (mergeW m).forks.length ≤ 128 ∧ (∀ f ∈ (mergeW m).forks, f.1 < 2 ^ (m + 1) ∧ f.2 < 2 ^ (m + 1) ∧ f.1 ≠ f.2) ∧ (mergeW m).ends.Perm (List.range (2 ^ (m + 1))) := by decide +kernel
theorem lanes_fit {k : Nat} (h : k < 5) : 1 ≤ 2 ^ k ∧ 2 ^ k ≤ 16 := ⟨Nat.one_le_two_pow, Nat.pow_le_pow_right (show 0 < 2 by decide) (show k ≤ 4 by lia)⟩
theorem tree_ok {k : Nat} (h : k < 5) : (treeW k).Ok := let ⟨a, b, c⟩ := tree_fit k h; ⟨(lanes_fit h).1, (lanes_fit h).2, a, b, c⟩
theorem stair_ok {k : Nat} (h : k < 5) : (stairW k).Ok := let ⟨a, b, c⟩ := stair_fit k h; ⟨(lanes_fit h).1, (lanes_fit h).2, a, b, c⟩
theorem merge_ok {m : Nat} (h : m < 4) : (mergeW m).Ok := let ⟨a, b, c⟩ := merge_fit m h; ⟨(lanes_fit (k := m + 1) (by lia)).1, (lanes_fit (k := m + 1) (by lia)).2, a, b, c⟩
end Bn
end
section
set_option maxHeartbeats 4000001
namespace K33
open PySem L2 Own Bn
abbrev sPow : Stmt := top 9
abbrev sRowOf : Stmt := top 19
abbrev sMadeNet : Stmt := top 20
def spPow : Sp := fun vs H Q _ => ∃ m : Nat, vs = [.int m] ∧ m ≤ 20 ∧ Q (.int ((2 ^ m : Nat) : Int)) H
def spRowOf : Sp := fun vs H Q _ => ∃ m : Nat, vs = [.int m] ∧ m ≤ 10 ∧ ∀ l, H l = none → Q (.ref l) (upd H l (.lst (nums (List.range (2 ^ m)))))
def spMadeNet : Sp := fun vs H Q _ => ∃ (p c lf le : Addr) (ps : List V) (fs : List Fk) (row es : List Nat), vs = [.ref p, .ref c] ∧ H p = some (.lst (nums row)) ∧ H c = some (.tup [.ref lf, .ref le]) ∧ H lf = some (.lst ps) ∧ Prs H ps fs ∧ H le = some (.lst (nums es)) ∧ (Nt.Ok ⟨row.length, fs, es⟩ ∧ fs.length ≤ 63) ∧
  ∀ r' fr' er' ps' H', Same H H' → NetAt H' r' fr' er' ps' (plainN ⟨row.length, fs, es⟩) → Q (.ref r') H'
theorem few_ways : ∀ k, k < 4 → (treeW k).forks.length ≤ 63 ∧ (stairW k).forks.length ≤ 63 ∧ (roundsN k).forks.length ≤ 63 ∧ (mergeW k).forks.length ≤ 63 := by decide +kernel
section
variable {P : Program} {w : World} {K : PySem.W.Frag} {mg : Str → Option Value} {base : Heap}
theorem scP2 : FnScope ["many", "power", "doubling"] ["many"] (defScope sPow) := ⟨rfl, rfl, rfl, by decide +kernel, rfl, by decide +kernel, by decide +kernel⟩
theorem ok_pow {f : Addr} {fd : FuncData} (F : Fun K "power_of_two" "power_of_two" sPow f fd) (G : Mgs mg) : FnOk P w K mg base CX0 1 f fd ["many"] spPow := by
  refine F.ok scP2 (fun vs H Q E h => ?_) (fun cdv A outer s H vs Q E hr h => ?_)
  · obtain ⟨m, rfl, _⟩ := h
    rfl
  obtain ⟨m, rfl, hm, k⟩ := h
  refine ⟨_, (@pss_cons _ _ _ _ _ (@ps_set _ _ 1 _ _ _ _ scP2.nd rfl (Or.inl rfl) pe_int (by rfl) (by first | exact .inl rfl | exact .inr rfl | assumption)) (@pss_cons _ _ _ _ _ (@ps_for _ _ _ _ _ _ _ _ PassesOwn.never rfl (@pi_range1 _ _ _ _ _ _ rfl G.range (@pa_cons _ _ _ _ _ (@pv _ 0 _ _ (by rfl) (by first | exact Or.inl rfl | exact Or.inr (Or.inl rfl) | exact Or.inr (Or.inr rfl)) (by decide) (by decide)) pa_nil (by rfl)) (by rfl)) (@pg_name _ _ 2 _ scP2.nd rfl (Or.inl rfl) (by first | exact .inl rfl | exact .inr rfl | assumption)) (@pss_one _ _ _ (@ps_aug _ _ 1 _ _ _ _ _ _ scP2.nd rfl (Or.inl rfl) pe_int iop_mul (by first | exact .inl rfl | exact .inr rfl | assumption))) (by intro _; rfl)) (@pss_one _ _ _ (@ps_ret _ _ _ _ (@pv _ 1 _ _ (by rfl) (by first | exact Or.inl rfl | exact Or.inr (Or.inl rfl) | exact Or.inr (Or.inr rfl)) (by decide) (by decide)))))), ?_⟩
  refine ⟨_, rfl, m, rfl, by lia, by lia, for_range (lo := 0) (n := ((m : Nat) : Int).toNat) (fun i σ H2 => H2 = H ∧ ∃ v2, σ = [some (.int m), some (.int ((2 ^ i : Nat) : Int)), v2]) ⟨rfl, _, rfl⟩ ?_ ?_⟩
  · rintro i σ H2 hi ⟨rfl, v2, rfl⟩
    refine ⟨_, rfl, _, _, rfl, rfl, .inr ⟨by decide, by decide⟩, rfl, some (.int (0 + (i : Nat))), ?_⟩
    rw [← show ((2 ^ i : Nat) : Int) * 2 = ((2 ^ (i + 1) : Nat) : Int) from by rw [Nat.pow_succ, Int.natCast_mul]; rfl]; rfl
  · rintro σ H2 ⟨rfl, v2, rfl⟩
    refine ⟨_, rfl, ?_⟩
    rw [show ((m : Nat) : Int).toNat = m from by lia]
    exact k
theorem scRo : FnScope ["k"] ["k"] (defScope sRowOf) := ⟨rfl, rfl, rfl, by decide +kernel, rfl, by decide +kernel, by decide +kernel⟩
theorem ok_rowof {f fP : Addr} {fd dP : FuncData} (F : Fun K "row_of" "row_of" sRowOf f fd) (G : Mgs mg) (UP : Use P w K mg base "power_of_two" ["many"] 1 spPow fP dP) : FnOk P w K mg base CX0 2 f fd ["k"] spRowOf := by
  refine F.ok scRo (fun vs H Q E h => ?_) (fun cdv A outer s H vs Q E hr h => ?_)
  · obtain ⟨m, rfl, _⟩ := h
    rfl
  obtain ⟨m, rfl, hm, k⟩ := h
  refine ⟨_, (@pss_one _ _ _ (@ps_ret _ _ _ _ (@pe_lstRng _ _ _ _ _ _ _ rfl (by rfl) G.list (by rfl) G.range (@pa_cons _ _ _ _ _ (@pe_call _ _ _ _ _ _ _ _ _ _ _ _ _ _ _ _ UP.ok hr (by rfl) UP.m UP.kp UP.b .nil pass0 (@pa_cons _ _ _ _ _ (@pv _ 0 _ _ (by rfl) (by first | exact Or.inl rfl | exact Or.inr (Or.inl rfl) | exact Or.inr (Or.inr rfl)) (by decide) (by decide)) pa_nil (by rfl)) (by decide) (by rfl) (by rfl)) pa_nil (by rfl)) (by rfl) (by rfl)))), ?_⟩
  have b : 2 ^ m ≤ 2 ^ 10 := Nat.pow_le_pow_right (by decide) hm
  exact ⟨_, rfl, m, rfl, by lia, 2 ^ m, rfl, Nat.le_trans b (by decide), fun l hl => k l hl⟩
theorem scMn : FnScope ["row", "made", "forks", "ends"] ["row", "made"] (defScope sMadeNet) := ⟨rfl, rfl, rfl, by decide +kernel, rfl, by decide +kernel, by decide +kernel⟩
theorem ok_madenet {f fP : Addr} {fd dP : FuncData} (F : Fun K "net_of" "net_of" sMadeNet f fd) (G : Mgs mg) (UP : Use P w K mg base "plain" ["net"] 2 spPlain fP dP) : FnOk P w K mg base CX0 3 f fd ["row", "made"] spMadeNet := by
  refine F.ok scMn (fun vs H Q E h => ?_) (fun cdv A outer s H vs Q E hr h => ?_)
  · obtain ⟨p, c, lf, le, ps, fs, row, es, rfl, _⟩ := h
    rfl
  obtain ⟨p, c, lf, le, ps, fs, row, es, rfl, hp, hc, hlf, pr, hle, ⟨ok, few⟩, k⟩ := h
  refine ⟨_, (@pss_cons _ _ _ _ _ (@ps_asg _ _ _ _ _ _ (@pv _ 1 _ _ (by rfl) (by first | exact Or.inl rfl | exact Or.inr (Or.inl rfl) | exact Or.inr (Or.inr rfl)) (by decide) (by decide)) (@pg_tup _ _ _ _ _ _ rfl (@pgs_cons _ _ _ _ _ (@pg_name _ _ 2 _ scMn.nd rfl (Or.inl rfl) (by first | exact .inl rfl | exact .inr rfl | assumption)) (@pgs_cons _ _ _ _ _ (@pg_name _ _ 3 _ scMn.nd rfl (Or.inl rfl) (by first | exact .inl rfl | exact .inr rfl | assumption)) pgs_nil (by rfl)) (by rfl)) (by rfl) (by rfl)) (by rfl) (by rfl) (by rfl)) (@pss_one _ _ _ (@ps_ret _ _ _ _ (@pe_call _ _ _ _ _ _ _ _ _ _ _ _ _ _ _ _ UP.ok hr (by rfl) UP.m UP.kp UP.b .nil pass0 (@pa_cons _ _ _ _ _ (@pe_tup _ _ _ _ _ (@pa_cons _ _ _ _ _ (@pe_callB _ _ _ _ _ _ _ _ _ call_len_seq (by rfl) G.len PySem.boot_len (@pa_cons _ _ _ _ _ (@pv _ 0 _ _ (by rfl) (by first | exact Or.inl rfl | exact Or.inr (Or.inl rfl) | exact Or.inr (Or.inr rfl)) (by decide) (by decide)) pa_nil (by rfl)) (by decide) (by decide) (by rfl) (by rfl)) (@pa_cons _ _ _ _ _ (@pe_callTy _ _ _ _ _ _ _ _ _ call_tuple_of (by rfl) G.tuple (by rfl) (@pa_cons _ _ _ _ _ (@pv _ 2 _ _ (by rfl) (by first | exact Or.inl rfl | exact Or.inr (Or.inl rfl) | exact Or.inr (Or.inr rfl)) (by decide) (by decide)) pa_nil (by rfl)) (by decide) (by decide) (by rfl) (by rfl)) (@pa_cons _ _ _ _ _ (@pe_callTy _ _ _ _ _ _ _ _ _ call_tuple_of (by rfl) G.tuple (by rfl) (@pa_cons _ _ _ _ _ (@pv _ 3 _ _ (by rfl) (by first | exact Or.inl rfl | exact Or.inr (Or.inl rfl) | exact Or.inr (Or.inr rfl)) (by decide) (by decide)) pa_nil (by rfl)) (by decide) (by decide) (by rfl) (by rfl)) pa_nil (by rfl)) (by rfl)) (by rfl))) pa_nil (by rfl)) (by decide) (by rfl) (by rfl))))), ?_⟩
  refine ⟨_, rfl, c, _, rfl, SqT.of hc, rfl, _, _, rfl, _, _, rfl, rfl, ?_⟩
  refine ⟨_, rfl, p, _, rfl, .inl (SqL.of hp), _, rfl, lf, _, rfl, .inl ⟨SqL.of hlf, fun fr hfr => ?_⟩⟩
  have s1 := same_new hfr (.tup ps)
  refine ⟨_, rfl, le, _, rfl, .inl ⟨SqL.of (s1 _ _ hle), fun er her => ?_⟩⟩
  have s2 := same_new her (.tup (nums es))
  refine ⟨(by show 3 ≤ sizeLine; decide), fun r hr' => ?_⟩
  have s3 := same_new hr' (.tup [.int ((nums row).length : Nat), .ref fr, .ref er])
  have n3 : L2.upd (L2.upd (L2.upd H fr (.tup ps)) er (.tup (nums es))) r (.tup [.int ((nums row).length : Nat), .ref fr, .ref er]) r = some (.tup [.int (row.length : Nat), .ref fr, .ref er]) := by rw [upd_same, nums_len]
  refine ⟨r, fr, er, ps, ⟨row.length, fs, es⟩, rfl, ok, few, ⟨n3, s3 _ _ (s2 _ _ (atNew hfr _)), pr.tups (Tups.of ((s1.trans s2).trans s3)), s3 _ _ (atNew her _)⟩, fun r' fr' ps' H' s' n' => k r' fr' er ps' H' (((s1.trans s2).trans s3).trans s') n'⟩
end
end K33
end
section
set_option maxHeartbeats 4000001
namespace Bn
open PySem L2 Own
theorem lay_le {n : Nat} {fs : List (Nat × Nat)} (ok : ∀ f ∈ fs, f.1 < n ∧ f.2 < n) : ∀ i, i ≤ fs.length → ∀ z ∈ (lay n (fs.take i)).2, z ≤ i
  | 0, _, z, h => by simp [lay] at h
  | i + 1, hi, z, h => by
    have il : i < fs.length := by lia
    have ih := lay_le ok i (by lia)
    have ln := lay_lens (n := n) i fs (by lia)
    have okf := ok _ (List.getElem_mem il)
    have low : ∀ lane, lane < n → (lay n (fs.take i)).1.getD lane 0 ≤ i := fun lane hl => by
      rcases (lay_tops ok i (by lia) lane hl).2.2 with w | ⟨j, g, ji, _, _, e⟩
      · lia
      · rw [← e]; exact ih _ (L2.getD_mem (by lia))
    rw [lay_take (List.getElem?_eq_getElem il)] at h
    rcases List.mem_append.mp h with w | w
    · have := ih z w; lia
    · have a := low _ okf.1
      have b := low _ okf.2
      have w := List.mem_singleton.mp w
      have : big ((lay n (fs.take i)).1.getD fs[i].1 0) ((lay n (fs.take i)).1.getD fs[i].2 0) ≤ i := by unfold big; split <;> assumption
      lia
def IsTop (N : Nt) (d : Nat) : Prop := (∀ z ∈ layers N, z ≤ d) ∧ (d : Int) ∈ 0 :: layers N
theorem top_le {N : Nt} (ok : N.Ok) {d : Nat} (h : IsTop N d) : d ≤ 128 := by
  have := lay_le (n := N.lanes) (fs := N.forks) (fun f hf => ⟨(ok.fk f hf).1, (ok.fk f hf).2.1⟩) N.forks.length (Nat.le_refl _)
  rw [List.take_length] at this
  have fm := ok.fm
  rcases List.mem_cons.mp h.2 with w | w
  · lia
  · have := this d w; lia
theorem top_of {N : Nt} (ok : N.Ok) {M : Int} (h1 : ∀ z ∈ layers N, z ≤ M) (h2 : M ∈ 0 :: layers N) : ∃ d : Nat, M = d ∧ IsTop N d := by
  have p : 0 ≤ M := by
    rcases List.mem_cons.mp h2 with w | w
    · lia
    · have := lay_pos (n := N.lanes) (fs := N.forks) (fun f hf => ⟨(ok.fk f hf).1, (ok.fk f hf).2.1⟩) N.forks.length (Nat.le_refl _)
      rw [List.take_length] at this
      exact this M w
  obtain ⟨d, rfl⟩ := Int.eq_ofNat_of_zero_le p
  exact ⟨d, rfl, h1, h2⟩
end Bn
end
section
set_option maxHeartbeats 4000001
namespace K33
open PySem L2 Own Bn
abbrev sShares : Stmt := top 8
abbrev sAlone : Stmt := top 10
def spPowB : Sp := fun vs H Q _ => ∃ m : Nat, vs = [.int m] ∧ m ≤ 1000 ∧ Q (.int (pw m)) H
def spAlone : Sp := fun vs H Q _ => ∃ (lanes lane : Nat) (many : Int), vs = [.int lanes, .int lane, .int many] ∧ lane < lanes ∧ lanes ≤ 16 ∧ ∀ p H', Same H H' → H' p = some (.tup ((aloneL lanes lane many).map V.int)) → Q (.ref p) H'
def spShares : Sp := fun vs H Q _ => ∃ r fr er ps N, vs = [.ref r] ∧ Nt.Ok N ∧ NetAt H r fr er ps N ∧ ∀ p (d : Nat) ss H', Same H H' → IsTop N d → H' p = some (.tup ss) → ss.length = N.lanes → (∀ lane, lane < N.lanes → ∃ a, ss[lane]? = some (.ref a) ∧ H' a = some (.tup ((endsM N (aloneL N.lanes lane (pw d))).map V.int))) → Q (.ref p) H'
section
variable {P : Program} {w : World} {K : PySem.W.Frag} {mg : Str → Option Value} {base : Heap}
theorem scP3 : FnScope ["many", "power", "doubling"] ["many"] (defScope sPow) := ⟨rfl, rfl, rfl, by decide +kernel, rfl, by decide +kernel, by decide +kernel⟩
theorem ok_powb {f : Addr} {fd : FuncData} (F : Fun K "power_of_two" "power_of_two" sPow f fd) (G : Mgs mg) : FnOk P w K mg base CX0 1 f fd ["many"] spPowB := by
  refine F.ok scP3 (fun vs H Q E h => ?_) (fun cdv A outer s H vs Q E hr h => ?_)
  · obtain ⟨m, rfl, _⟩ := h
    rfl
  obtain ⟨m, rfl, hm, k⟩ := h
  refine ⟨_, (@pss_cons _ _ _ _ _ (@ps_set _ _ 1 _ _ _ _ scP3.nd rfl (Or.inl rfl) pe_int (by rfl) (by first | exact .inl rfl | exact .inr rfl | assumption)) (@pss_cons _ _ _ _ _ (@ps_for _ _ _ _ _ _ _ _ PassesOwn.never rfl (@pi_range1 _ _ _ _ _ _ rfl G.range (@pa_cons _ _ _ _ _ (@pv _ 0 _ _ (by rfl) (by first | exact Or.inl rfl | exact Or.inr (Or.inl rfl) | exact Or.inr (Or.inr rfl)) (by decide) (by decide)) pa_nil (by rfl)) (by rfl)) (@pg_name _ _ 2 _ scP3.nd rfl (Or.inl rfl) (by first | exact .inl rfl | exact .inr rfl | assumption)) (@pss_one _ _ _ (@ps_aug _ _ 1 _ _ _ _ _ _ scP3.nd rfl (Or.inl rfl) pe_int iop_mul (by first | exact .inl rfl | exact .inr rfl | assumption))) (by intro _; rfl)) (@pss_one _ _ _ (@ps_ret _ _ _ _ (@pv _ 1 _ _ (by rfl) (by first | exact Or.inl rfl | exact Or.inr (Or.inl rfl) | exact Or.inr (Or.inr rfl)) (by decide) (by decide)))))), ?_⟩
  refine ⟨_, rfl, m, rfl, by lia, by lia, for_range (lo := 0) (n := ((m : Nat) : Int).toNat) (fun i σ H2 => H2 = H ∧ ∃ v2, σ = [some (.int m), some (.int (pw i)), v2]) ⟨rfl, _, rfl⟩ ?_ ?_⟩
  · rintro i σ H2 hi ⟨rfl, v2, rfl⟩
    refine ⟨_, rfl, _, _, rfl, rfl, .inr ⟨by decide, by decide⟩, rfl, some (.int (0 + (i : Nat))), ?_⟩
    rw [← show pw i * 2 = pw (i + 1) from by rw [pw_succ, Int.mul_comm]]; rfl
  · rintro σ H2 ⟨rfl, v2, rfl⟩
    refine ⟨_, rfl, ?_⟩
    rw [show ((m : Nat) : Int).toNat = m from by lia]
    exact k
theorem scA2 : FnScope ["lanes", "lane", "many", "counts"] ["lanes", "lane", "many"] (defScope sAlone) := ⟨rfl, rfl, rfl, by decide +kernel, rfl, by decide +kernel, by decide +kernel⟩
theorem ok_alone {f : Addr} {fd : FuncData} (F : Fun K "alone" "alone" sAlone f fd) (G : Mgs mg) : FnOk P w K mg base CX0 1 f fd ["lanes", "lane", "many"] spAlone := by
  refine F.ok scA2 (fun vs H Q E h => ?_) (fun cdv A outer s H vs Q E hr h => ?_)
  · obtain ⟨lanes, lane, many, rfl, _⟩ := h
    rfl
  obtain ⟨lanes, lane, many, rfl, hl, l16, k⟩ := h
  refine ⟨_, (@pss_cons _ _ _ _ _ (@ps_set _ _ 3 _ _ _ _ scA2.nd rfl (Or.inl rfl) (@pe_op _ _ _ _ _ _ _ _ op_rep (@pe_lst _ _ _ _ (@pa_cons _ _ _ _ _ pe_int pa_nil (by rfl))) (@pv _ 0 _ _ (by rfl) (by first | exact Or.inl rfl | exact Or.inr (Or.inl rfl) | exact Or.inr (Or.inr rfl)) (by decide) (by decide))) (by rfl) (by first | exact .inl rfl | exact .inr rfl | assumption)) (@pss_cons _ _ _ _ _ (@ps_asg _ _ _ _ _ _ (@pv _ 2 _ _ (by rfl) (by first | exact Or.inl rfl | exact Or.inr (Or.inl rfl) | exact Or.inr (Or.inr rfl)) (by decide) (by decide)) (@pg_sub _ _ _ _ _ _ _ (@pv _ 3 _ _ (by rfl) (by first | exact Or.inl rfl | exact Or.inr (Or.inl rfl) | exact Or.inr (Or.inr rfl)) (by decide) (by decide)) (@pv _ 1 _ _ (by rfl) (by first | exact Or.inl rfl | exact Or.inr (Or.inl rfl) | exact Or.inr (Or.inr rfl)) (by decide) (by decide)) set_list (by intro _; rfl)) (by rfl) (by rfl) (by rfl)) (@pss_one _ _ _ (@ps_ret _ _ _ _ (@pe_callTy _ _ _ _ _ _ _ _ _ call_tuple_of (by rfl) G.tuple (by rfl) (@pa_cons _ _ _ _ _ (@pv _ 3 _ _ (by rfl) (by first | exact Or.inl rfl | exact Or.inr (Or.inl rfl) | exact Or.inr (Or.inr rfl)) (by decide) (by decide)) pa_nil (by rfl)) (by decide) (by decide) (by rfl) (by rfl)))))), ?_⟩
  have tn : ((lanes : Nat) : Int).toNat = lanes := by lia
  refine ⟨(by show 1 ≤ sizeLine; decide), fun p1 hp1 => ?_⟩
  have s1 := same_new hp1 (.lst [.int 0])
  refine ⟨_, rfl, p1, lanes, _, rfl, rfl, upd_same, by lia, by lia, by show 1 * _ ≤ sizeLine; rw [sizeLine_eq]; lia, fun lc hlc => ?_⟩
  have hlc0 : H lc = none := by
    cases z : H lc with
    | none => rfl
    | some o => exact absurd (s1 _ _ z) (by rw [hlc]; exact fun w => nomatch w)
  rw [tn, noughts]
  refine ⟨_, rfl, _, rfl, _, rfl, lc, _, _, lane, rfl, rfl, upd_same, ix_at (by simp; lia), ?_⟩
  refine ⟨_, rfl, lc, _, rfl, .inl ⟨SqL.of upd_same, fun p hp => k p _ (fun b o e => ?_) ?_⟩⟩
  · rw [upd_ne (ne_of_none (o := o) (by rw [upd_ne (ne_of_none e hlc0), upd_ne (ne_of_none e hlc0)]; exact s1 _ _ e) hp), upd_ne (ne_of_none e hlc0), upd_ne (ne_of_none e hlc0)]; exact s1 _ _ e
  · rw [upd_same, set_ints]; rfl
theorem scS : FnScope ["net", "lanes", "balls"] ["net"] (defScope sShares) := ⟨rfl, rfl, rfl, by decide +kernel, rfl, by decide +kernel, by decide +kernel⟩
theorem ok_shares {f fD fP fA fE : Addr} {fd dD dP dA dE : FuncData} (F : Fun K "shares" "shares" sShares f fd) (G : Mgs mg) (UD : Use P w K mg base "depth" ["net"] 2 spDepth fD dD) (UP : Use P w K mg base "power_of_two" ["many"] 1 spPowB fP dP) (UA : Use P w K mg base "alone" ["lanes", "lane", "many"] 1 spAlone fA dA)
    (UE : Use P w K mg base "ends_of" ["net", "counts"] 2 spEnds fE dE) : FnOk P w K mg base CX0 3 f fd ["net"] spShares := by
  refine F.ok scS (fun vs H Q E h => ?_) (fun cdv A outer s H vs Q E hr h => ?_)
  · obtain ⟨r, fr, er, ps, N, rfl, _⟩ := h
    rfl
  obtain ⟨r, fr, er, ps, N, rfl, ok, na, k⟩ := h
  have hr1 : Room 1 _ := hr.mono (by decide)
  refine ⟨_, (@pss_cons _ _ _ _ _ (@ps_set _ _ 1 _ _ _ _ scS.nd rfl (Or.inr rfl) (@pe_ix _ _ _ _ _ _ _ ix_tup (@pv _ 0 _ _ (by rfl) (by first | exact Or.inl rfl | exact Or.inr (Or.inl rfl) | exact Or.inr (Or.inr rfl)) (by decide) (by decide)) pe_int (fun _ _ => rfl)) (by rfl) (by first | exact .inl rfl | exact .inr rfl | assumption)) (@pss_cons _ _ _ _ _ (@ps_set _ _ 2 _ _ _ _ scS.nd rfl (Or.inr rfl) (@pe_call _ _ _ _ _ _ _ _ _ _ _ _ _ _ _ _ UP.ok hr1 (by rfl) UP.m UP.kp UP.b .nil pass0 (@pa_cons _ _ _ _ _ (@pe_call _ _ _ _ _ _ _ _ _ _ _ _ _ _ _ _ UD.ok hr (by rfl) UD.m UD.kp UD.b .nil pass0 (@pa_cons _ _ _ _ _ (@pv _ 0 _ _ (by rfl) (by first | exact Or.inl rfl | exact Or.inr (Or.inl rfl) | exact Or.inr (Or.inr rfl)) (by decide) (by decide)) pa_nil (by rfl)) (by decide) (by rfl) (by rfl)) pa_nil (by rfl)) (by decide) (by rfl) (by rfl)) (by rfl) (by first | exact .inl rfl | exact .inr rfl | assumption)) (@pss_one _ _ _ (@ps_ret _ _ _ _ (@pe_callTy _ _ _ _ _ _ _ _ _ call_tuple_of (by rfl) G.tuple (by rfl) (@pa_cons _ _ _ _ _ (@pe_lc _ _ _ _ none _ _ _ _ _ _ ["lane", "net", "lanes", "balls"] [none, some 0, some 1, some 2] rfl (@pi_range1 _ _ _ _ _ _ rfl G.range (@pa_cons _ _ _ _ _ (@pv _ 1 _ _ (by rfl) (by first | exact Or.inl rfl | exact Or.inr (Or.inl rfl) | exact Or.inr (Or.inr rfl)) (by decide) (by decide)) pa_nil (by rfl)) (by rfl)) (CapOk.of (by kernel_rfl)) (fun _ _ _ _ _ => (@pg_name _ _ 0 _ (show (["lane", "net", "lanes", "balls"] : List Str).Nodup from by decide +kernel) rfl (Or.inl rfl) (Or.inr rfl))) (fun _ _ _ _ _ => pt_none) (fun _ _ _ _ _ => (@pe_call _ _ _ _ _ _ _ _ _ _ _ _ _ _ _ _ UE.ok hr (by rfl) UE.m UE.kp UE.b .nil pass0 (@pa_cons _ _ _ _ _ (@pv _ 1 _ _ (by rfl) (by first | exact Or.inl rfl | exact Or.inr (Or.inl rfl) | exact Or.inr (Or.inr rfl)) (by decide) (by decide)) (@pa_cons _ _ _ _ _ (@pe_call _ _ _ _ _ _ _ _ _ _ _ _ _ _ _ _ UA.ok hr1 (by rfl) UA.m UA.kp UA.b .nil pass0 (@pa_cons _ _ _ _ _ (@pv _ 2 _ _ (by rfl) (by first | exact Or.inl rfl | exact Or.inr (Or.inl rfl) | exact Or.inr (Or.inr rfl)) (by decide) (by decide)) (@pa_cons _ _ _ _ _ (@pv _ 0 _ _ (by rfl) (by first | exact Or.inl rfl | exact Or.inr (Or.inl rfl) | exact Or.inr (Or.inr rfl)) (by decide) (by decide)) (@pa_cons _ _ _ _ _ (@pv _ 3 _ _ (by rfl) (by first | exact Or.inl rfl | exact Or.inr (Or.inl rfl) | exact Or.inr (Or.inr rfl)) (by decide) (by decide)) pa_nil (by rfl)) (by rfl)) (by rfl)) (by decide) (by rfl) (by rfl)) pa_nil (by rfl)) (by rfl)) (by decide) (by rfl) (by rfl))) (by intro _; rfl)) pa_nil (by rfl)) (by decide) (by decide) (by rfl) (by rfl)))))), ?_⟩
  have l16 := ok.l16
  refine ⟨_, rfl, r, _, _, _, rfl, rfl, SqT.of na.net, rfl, ?_⟩
  refine ⟨_, rfl, r, fr, er, ps, N, rfl, ok, na, fun M H1 s1 hM hz _ _ => ?_⟩
  obtain ⟨d, rfl, tp⟩ := top_of ok hz hM
  have d128 := top_le ok tp
  refine ⟨d, rfl, by lia, ?_⟩
  have na1 := na.tups (Tups.of s1)
  refine ⟨_, rfl, N.lanes, rfl, by lia, by lia, fun l hl => ?_⟩
  refine lc_range (lo := 0) (n := ((N.lanes : Nat) : Int).toNat) (fun i acc σ H2 => (∃ v, σ = [v, some (.ref r), some (.int N.lanes), some (.int (pw d))]) ∧ Same H1 H2 ∧ H2 l = some (.lst acc) ∧ acc.length = i ∧ ∀ lane, lane < i → ∃ a, acc[lane]? = some (.ref a) ∧ H2 a = some (.tup ((endsM N (aloneL N.lanes lane (pw d))).map V.int))) ⟨⟨_, rfl⟩, same_new hl _, upd_same, rfl, fun lane h => absurd h (Nat.not_lt_zero _)⟩ (fun i acc σ H2 q => q.2.2.1) ?_ ?_
  · rintro i acc σ H2 hi ⟨⟨v, rfl⟩, s2, h2, al, ha⟩
    have il : i < N.lanes := by lia
    refine ⟨_, rfl, _, rfl, _, rfl, _, rfl, N.lanes, i, pw d, by rw [Int.zero_add]; rfl, il, l16, fun c H3 s3 hc => ?_⟩
    refine ⟨r, fr, er, ps, N, c, _, rfl, ok, na1.tups (Tups.of (s2.trans s3)), hc, alone_len _ _ _, fun e H4 s4 he => ?_⟩
    have h4 := s4 _ _ (s3 _ _ h2)
    refine ⟨h4, by rw [al]; exact Nat.lt_of_lt_of_le (show i < 1000 by lia) (by decide), nx (by lia) ⟨⟨_, rfl⟩, fun b o z => ?_, upd_same, by simp [al], fun lane hlane => ?_⟩⟩
    · rw [upd_ne (ne_of_none z hl)]; exact s4 _ _ (s3 _ _ (s2 b o z))
    · by_cases z : lane = i
      · subst z
        exact ⟨e, by rw [List.getElem?_append_right (by lia), al, Nat.sub_self]; rfl, Tups.lst h4 _ _ he⟩
      · obtain ⟨a, ea, ha'⟩ := ha lane (by lia)
        exact ⟨a, by rw [List.getElem?_append_left (by lia)]; exact ea, Tups.lst h4 _ _ (s4 _ _ (s3 _ _ ha'))⟩
  · rintro acc σ H2 ⟨⟨v, rfl⟩, s2, h2, al, ha⟩
    have tn : ((N.lanes : Nat) : Int).toNat = N.lanes := by lia
    rw [tn] at al ha
    refine ⟨l, _, rfl, .inl ⟨SqL.of h2, fun q hq => ?_⟩⟩
    have s3 := same_new hq (.tup acc)
    exact k q d acc _ ((s1.trans s2).trans s3) tp upd_same al fun lane hl => by
      obtain ⟨a, ea, ha'⟩ := ha lane hl
      exact ⟨a, ea, s3 _ _ ha'⟩
end
end K33
end
section
set_option maxHeartbeats 4000001
namespace K33
open PySem L2 Own Bn
abbrev sUnlike : Stmt := top 13
abbrev sUneven : Stmt := top 12
abbrev sIsEven : Stmt := top 11
def Alike (xs : List Int) (one other : Nat) : Prop := ∀ i j, i < j → j < xs.length → (i < one ∨ i = one ∧ j < other) → xs.getD i 0 = xs.getD j 0
def FirstU (xs : List Int) (one other : Nat) : Prop := one < other ∧ other < xs.length ∧ xs.getD one 0 ≠ xs.getD other 0 ∧ Alike xs one other
def Even (xs : List Int) : Prop := ∀ i j, i < j → j < xs.length → xs.getD i 0 = xs.getD j 0
def spUnlike : Sp := fun vs H Q _ => ∃ (a : Addr) (xs : List Int), vs = [.ref a] ∧ H a = some (.tup (xs.map V.int)) ∧ xs.length ≤ 16 ∧ (Even xs → Q .non H) ∧ ∀ one other p, FirstU xs one other → H p = none → Q (.ref p) (L2.upd H p (.tup [.int (one : Nat), .int (other : Nat)]))
def spUneven : Sp := fun vs H Q _ => ∃ r fr er ps N so ls, vs = [.ref r, .ref so] ∧ Nt.Ok N ∧ NetAt H r fr er ps N ∧ H so = some (.tup (nums ls)) ∧ (∀ x ∈ ls, x < N.lanes) ∧
  (∀ d H', IsTop N d → (∀ q, ∀ h : q < ls.length, Even (endsM N (aloneL N.lanes ls[q] (pw d)))) → Same H H' → Q .non H') ∧
  ∀ d k, ∀ h : k < ls.length, ∀ (one other : Nat) p H', IsTop N d → (∀ q, q < k → ∀ h' : q < ls.length, Even (endsM N (aloneL N.lanes ls[q] (pw d)))) → FirstU (endsM N (aloneL N.lanes ls[k] (pw d))) one other → Same H H' → H' p = some (.tup [.int ls[k], .int one, .int other]) → Q (.ref p) H'
def spIsEven : Sp := fun vs H Q _ => ∃ r fr er ps N so ls, vs = [.ref r, .ref so] ∧ Nt.Ok N ∧ NetAt H r fr er ps N ∧ H so = some (.tup (nums ls)) ∧ (∀ x ∈ ls, x < N.lanes) ∧
  (∀ d H', IsTop N d → (∀ q, ∀ h : q < ls.length, Even (endsM N (aloneL N.lanes ls[q] (pw d)))) → Same H H' → Q (.bl true) H') ∧
  ∀ d k, ∀ h : k < ls.length, ∀ (one other : Nat) H', IsTop N d → (∀ q, q < k → ∀ h' : q < ls.length, Even (endsM N (aloneL N.lanes ls[q] (pw d)))) → FirstU (endsM N (aloneL N.lanes ls[k] (pw d))) one other → Same H H' → Q (.bl false) H'
section
variable {P : Program} {w : World} {K : PySem.W.Frag} {mg : Str → Option Value} {base : Heap}
theorem scI1 : FnScope ["share", "one", "other"] ["share"] (defScope sUnlike) := ⟨rfl, rfl, rfl, by decide +kernel, rfl, by decide +kernel, by decide +kernel⟩
theorem ok_unlike {f : Addr} {fd : FuncData} (F : Fun K "unlike_pair" "unlike_pair" sUnlike f fd) (G : Mgs mg) : FnOk P w K mg base CX0 1 f fd ["share"] spUnlike := by
  refine F.ok scI1 (fun vs H Q E h => ?_) (fun cdv A outer s H vs Q E hr h => ?_)
  · obtain ⟨a, xs, rfl, _⟩ := h
    rfl
  obtain ⟨a, xs, rfl, ha, l16, kn, kp⟩ := h
  refine ⟨_, (@pss_cons _ _ _ _ _ (@ps_for _ _ _ _ _ _ _ _ PassesOwn.never rfl (@pi_range1 _ _ _ _ _ _ rfl G.range (@pa_cons _ _ _ _ _ (@pe_callB _ _ _ _ _ _ _ _ _ call_len_seq (by rfl) G.len PySem.boot_len (@pa_cons _ _ _ _ _ (@pv _ 0 _ _ (by rfl) (by first | exact Or.inl rfl | exact Or.inr (Or.inl rfl) | exact Or.inr (Or.inr rfl)) (by decide) (by decide)) pa_nil (by rfl)) (by decide) (by decide) (by rfl) (by rfl)) pa_nil (by rfl)) (by rfl)) (@pg_name _ _ 1 _ scI1.nd rfl (Or.inl rfl) (by first | exact .inl rfl | exact .inr rfl | assumption)) (@pss_one _ _ _ (@ps_for _ _ _ _ _ _ _ _ PassesOwn.never rfl (@pi_range2 _ _ _ _ _ _ _ rfl G.range (@pa_cons _ _ _ _ _ (@pe_op _ _ _ _ _ _ _ _ op_add (@pv _ 1 _ _ (by rfl) (by first | exact Or.inl rfl | exact Or.inr (Or.inl rfl) | exact Or.inr (Or.inr rfl)) (by decide) (by decide)) pe_int) (@pa_cons _ _ _ _ _ (@pe_callB _ _ _ _ _ _ _ _ _ call_len_seq (by rfl) G.len PySem.boot_len (@pa_cons _ _ _ _ _ (@pv _ 0 _ _ (by rfl) (by first | exact Or.inl rfl | exact Or.inr (Or.inl rfl) | exact Or.inr (Or.inr rfl)) (by decide) (by decide)) pa_nil (by rfl)) (by decide) (by decide) (by rfl) (by rfl)) pa_nil (by rfl)) (by rfl)) (by rfl) (by rfl)) (@pg_name _ _ 2 _ scI1.nd rfl (Or.inl rfl) (by first | exact .inl rfl | exact .inr rfl | assumption)) (@pss_one _ _ _ (@ps_if _ _ _ _ _ _ _ _ (@pt_cmpR _ _ _ _ _ _ _ _ op_ne (@pe_ix _ _ _ _ _ _ _ ix_tup (@pv _ 0 _ _ (by rfl) (by first | exact Or.inl rfl | exact Or.inr (Or.inl rfl) | exact Or.inr (Or.inr rfl)) (by decide) (by decide)) (@pv _ 1 _ _ (by rfl) (by first | exact Or.inl rfl | exact Or.inr (Or.inl rfl) | exact Or.inr (Or.inr rfl)) (by decide) (by decide)) (fun _ _ => rfl)) (@pe_ix _ _ _ _ _ _ _ ix_tup (@pv _ 0 _ _ (by rfl) (by first | exact Or.inl rfl | exact Or.inr (Or.inl rfl) | exact Or.inr (Or.inr rfl)) (by decide) (by decide)) (@pv _ 2 _ _ (by rfl) (by first | exact Or.inl rfl | exact Or.inr (Or.inl rfl) | exact Or.inr (Or.inr rfl)) (by decide) (by decide)) (fun _ _ => rfl)) (nomark _)) (@pss_one _ _ _ (@ps_ret _ _ _ _ (@pe_tup _ _ _ _ _ (@pa_cons _ _ _ _ _ (@pv _ 1 _ _ (by rfl) (by first | exact Or.inl rfl | exact Or.inr (Or.inl rfl) | exact Or.inr (Or.inr rfl)) (by decide) (by decide)) (@pa_cons _ _ _ _ _ (@pv _ 2 _ _ (by rfl) (by first | exact Or.inl rfl | exact Or.inr (Or.inl rfl) | exact Or.inr (Or.inr rfl)) (by decide) (by decide)) pa_nil (by rfl)) (by rfl))))) pss_nil)) (by intro _; rfl))) (by intro _; rfl)) (@pss_one _ _ _ (@ps_ret _ _ _ _ pe_non))), ?_⟩
  refine ⟨_, rfl, a, _, rfl, .inr (SqT.of ha), _, rfl, by rw [List.length_map]; lia, by rw [List.length_map]; lia, ?_⟩
  rw [List.length_map]
  refine for_range (lo := 0) (n := ((xs.length : Nat) : Int).toNat) (fun i σ H2 => H2 = H ∧ (∃ v1 v2, σ = [some (.ref a), v1, v2]) ∧ Alike xs i 0) ⟨rfl, ⟨_, _, rfl⟩, fun i j _ _ h => by lia⟩ ?_ ?_
  · rintro i σ H2 hi ⟨rfl, ⟨v1, v2, rfl⟩, al⟩
    have il : i < xs.length := by lia
    rw [Int.zero_add]
    refine ⟨_, rfl, _, _, rfl, rfl, _, rfl, a, _, rfl, .inr (SqT.of ha), _, _, rfl, ⟨by lia, by lia, by rw [List.length_map]; lia, by rw [List.length_map]; lia⟩, ?_⟩
    rw [List.length_map]
    refine for_range (lo := (i : Int) + 1) (n := ((xs.length : Int) - ((i : Int) + 1)).toNat) (fun j σ H3 => H3 = H2 ∧ (∃ v2, σ = [some (.ref a), some (.int i), v2]) ∧ Alike xs i (i + 1 + j)) ⟨rfl, ⟨_, rfl⟩, ?_⟩ ?_ ?_
    · intro p q pq ql h
      exact al p q pq ql (by lia)
    · rintro j σ H2 hj ⟨rfl, ⟨v2, rfl⟩, al2⟩
      have jl : i + 1 + j < xs.length := by lia
      have ej : (i : Int) + 1 + (j : Int) = ((i + 1 + j : Nat) : Int) := by lia
      rw [ej]
      refine ⟨_, rfl, _, rfl, a, _, _, _, rfl, rfl, SqT.of ha, at_int il, _, rfl, _, rfl, a, _, _, _, rfl, rfl, SqT.of ha, at_int jl, rfl, _, rfl, ?_⟩
      by_cases e : xs.getD i 0 = xs.getD (i + 1 + j) 0
      · rw [show (!decide (V.int (xs.getD i 0) = V.int (xs.getD (i + 1 + j) 0))) = false from by rw [decide_eq_true (by rw [e])]; rfl]
        refine iteF ⟨rfl, ⟨_, rfl⟩, fun p q pq ql h => ?_⟩
        by_cases z : p = i ∧ q = i + 1 + j
        · rw [z.1, z.2]; exact e
        · exact al2 p q pq ql (by lia)
      · rw [show (!decide (V.int (xs.getD i 0) = V.int (xs.getD (i + 1 + j) 0))) = true from by rw [decide_eq_false (fun z => e (V.int.inj z))]; rfl]
        exact iteT ⟨_, rfl, _, rfl, (by show 2 ≤ sizeLine; decide), fun p hp => kp i (i + 1 + j) p ⟨by lia, jl, e, al2⟩ hp⟩
    · rintro σ H2 ⟨rfl, ⟨v2, rfl⟩, al2⟩
      refine ⟨rfl, ⟨_, _, rfl⟩, fun p q pq ql h => ?_⟩
      exact al2 p q pq ql (by lia)
  · rintro σ H2 ⟨rfl, ⟨v1, v2, rfl⟩, al⟩
    exact kn fun p q pq ql => al p q pq ql (.inl (by lia))
theorem scU1 : FnScope ["net", "some", "told", "lane", "pair"] ["net", "some"] (defScope sUneven) := ⟨rfl, rfl, rfl, by decide +kernel, rfl, by decide +kernel, by decide +kernel⟩
theorem ok_uneven {f fH fI : Addr} {fd dH dI : FuncData} (F : Fun K "uneven" "uneven" sUneven f fd) (G : Mgs mg) (UH : Use P w K mg base "shares" ["net"] 3 spShares fH dH) (UI : Use P w K mg base "unlike_pair" ["share"] 1 spUnlike fI dI) : FnOk P w K mg base CX0 4 f fd ["net", "some"] spUneven := by
  refine F.ok scU1 (fun vs H Q E h => ?_) (fun cdv A outer s H vs Q E hr h => ?_)
  · obtain ⟨r, fr, er, ps, N, so, ls, rfl, _⟩ := h
    rfl
  obtain ⟨r, fr, er, ps, N, so, ls, rfl, ok, na, hso, lok, kn, kp⟩ := h
  have hr1 : Room 1 _ := hr.mono (by decide)
  refine ⟨_, (@pss_cons _ _ _ _ _ (@ps_set _ _ 2 _ _ _ _ scU1.nd rfl (Or.inl rfl) (@pe_call _ _ _ _ _ _ _ _ _ _ _ _ _ _ _ _ UH.ok hr (by rfl) UH.m UH.kp UH.b .nil pass0 (@pa_cons _ _ _ _ _ (@pv _ 0 _ _ (by rfl) (by first | exact Or.inl rfl | exact Or.inr (Or.inl rfl) | exact Or.inr (Or.inr rfl)) (by decide) (by decide)) pa_nil (by rfl)) (by decide) (by rfl) (by rfl)) (by rfl) (by first | exact .inl rfl | exact .inr rfl | assumption)) (@pss_cons _ _ _ _ _ (@ps_for _ _ _ _ _ _ _ _ PassesOwn.never rfl (@pi_tup _ _ _ _ (@pv _ 1 _ _ (by rfl) (by first | exact Or.inl rfl | exact Or.inr (Or.inl rfl) | exact Or.inr (Or.inr rfl)) (by decide) (by decide))) (@pg_name _ _ 3 _ scU1.nd rfl (Or.inl rfl) (by first | exact .inl rfl | exact .inr rfl | assumption)) (@pss_cons _ _ _ _ _ (@ps_set _ _ 4 _ _ _ _ scU1.nd rfl (Or.inl rfl) (@pe_call _ _ _ _ _ _ _ _ _ _ _ _ _ _ _ _ UI.ok hr1 (by rfl) UI.m UI.kp UI.b .nil pass0 (@pa_cons _ _ _ _ _ (@pe_ix _ _ _ _ _ _ _ ix_tup (@pv _ 2 _ _ (by rfl) (by first | exact Or.inl rfl | exact Or.inr (Or.inl rfl) | exact Or.inr (Or.inr rfl)) (by decide) (by decide)) (@pv _ 3 _ _ (by rfl) (by first | exact Or.inl rfl | exact Or.inr (Or.inl rfl) | exact Or.inr (Or.inr rfl)) (by decide) (by decide)) (fun _ _ => rfl)) pa_nil (by rfl)) (by decide) (by rfl) (by rfl)) (by rfl) (by first | exact .inl rfl | exact .inr rfl | assumption)) (@pss_one _ _ _ (@ps_if _ _ _ _ _ _ _ _ (@pt_cmpR _ _ _ _ _ _ _ _ op_notN (@pv _ 4 _ _ (by rfl) (by first | exact Or.inl rfl | exact Or.inr (Or.inl rfl) | exact Or.inr (Or.inr rfl)) (by decide) (by decide)) pe_non (by rfl)) (@pss_one _ _ _ (@ps_ret _ _ _ _ (@pe_tup _ _ _ _ _ (@pa_cons _ _ _ _ _ (@pv _ 3 _ _ (by rfl) (by first | exact Or.inl rfl | exact Or.inr (Or.inl rfl) | exact Or.inr (Or.inr rfl)) (by decide) (by decide)) (@pa_cons _ _ _ _ _ (@pe_ix _ _ _ _ _ _ _ ix_tup (@pv _ 4 _ _ (by rfl) (by first | exact Or.inl rfl | exact Or.inr (Or.inl rfl) | exact Or.inr (Or.inr rfl)) (by decide) (by decide)) pe_int (fun _ _ => rfl)) (@pa_cons _ _ _ _ _ (@pe_ix _ _ _ _ _ _ _ ix_tup (@pv _ 4 _ _ (by rfl) (by first | exact Or.inl rfl | exact Or.inr (Or.inl rfl) | exact Or.inr (Or.inr rfl)) (by decide) (by decide)) pe_int (fun _ _ => rfl)) pa_nil (by rfl)) (by rfl)) (by rfl))))) pss_nil))) (by intro _; rfl)) (@pss_one _ _ _ (@ps_ret _ _ _ _ pe_non)))), ?_⟩
  have l16 := ok.l16
  refine ⟨_, rfl, r, fr, er, ps, N, rfl, ok, na, fun p d ss H1 s1 tp hp sl hs => ?_⟩
  refine ⟨_, rfl, so, rfl, ⟨_, SqT.of (s1 _ _ hso)⟩, ?_⟩
  refine for_tup (K := K) (a := so) (xs := nums ls) (fun i σ H2 => (∃ v3 v4, σ = [some (.ref r), some (.ref so), some (.ref p), v3, v4]) ∧ H2 = H1 ∧ ∀ q, q < i → ∀ h : q < ls.length, Even (endsM N (aloneL N.lanes ls[q] (pw d)))) ⟨⟨_, _, rfl⟩, rfl, fun q h => absurd h (Nat.not_lt_zero _)⟩ (fun i σ H2 _ q => q.2.1 ▸ SqT.of (s1 _ _ hso)) ?_ ?_
  · rintro i x σ H2 hx ⟨⟨v3, v4, rfl⟩, rfl, ev⟩
    have il : i < ls.length := by have := (List.getElem?_eq_some_iff.mp hx).1; rwa [nums_len] at this
    have ex : x = .int ls[i] := by
      unfold nums at hx
      rw [List.getElem?_map, List.getElem?_eq_getElem il] at hx; exact (Option.some.inj hx).symm
    subst ex
    have lt' := lok _ (List.getElem_mem il)
    obtain ⟨a, ea, ha⟩ := hs _ lt'
    have el : (endsM N (aloneL N.lanes ls[i] (pw d))).length = N.lanes := by unfold endsM; rw [List.length_map]; exact ends_len ok
    refine ⟨_, rfl, _, rfl, p, _, _, _, rfl, rfl, SqT.of hp, atI_nat ea, a, _, rfl, ha, by lia, fun evn => ?_, fun one other q fu hq => ?_⟩
    · refine ⟨_, rfl, rfl, _, rfl, iteF ⟨⟨_, _, rfl⟩, rfl, fun q hq h => ?_⟩⟩
      by_cases z : q = i
      · subst z; exact evn
      · exact ev q (by lia) h
    · refine ⟨_, rfl, rfl, _, rfl, iteT ⟨_, rfl, _, rfl, q, _, _, _, rfl, rfl, SqT.of upd_same, rfl, _, rfl, q, _, _, _, rfl, rfl, SqT.of upd_same, rfl, (by show 3 ≤ sizeLine; decide), fun t ht => ?_⟩⟩
      exact kp d i il one other t _ tp (fun q hq h => ev q hq h) fu ((s1.trans (same_new hq _)).trans (same_new ht _)) upd_same
  · rintro σ H2 ⟨⟨v3, v4, rfl⟩, rfl, ev⟩
    rw [nums_len] at ev
    exact kn d H2 tp (fun q h => ev q h h) s1
theorem scE1 : FnScope ["net", "some"] ["net", "some"] (defScope sIsEven) := ⟨rfl, rfl, rfl, by decide +kernel, rfl, by decide +kernel, by decide +kernel⟩
theorem ok_iseven {f fU : Addr} {fd dU : FuncData} (F : Fun K "is_even" "is_even" sIsEven f fd) (G : Mgs mg) (UU : Use P w K mg base "uneven" ["net", "some"] 4 spUneven fU dU) : FnOk P w K mg base CX0 5 f fd ["net", "some"] spIsEven := by
  refine F.ok scE1 (fun vs H Q E h => ?_) (fun cdv A outer s H vs Q E hr h => ?_)
  · obtain ⟨r, fr, er, ps, N, so, ls, rfl, _⟩ := h
    rfl
  obtain ⟨r, fr, er, ps, N, so, ls, rfl, ok, na, hso, lok, kn, kp⟩ := h
  refine ⟨_, (@pss_one _ _ _ (@ps_ret _ _ _ _ (@pe_cmpR _ _ _ _ _ _ _ _ op_isN (@pe_call _ _ _ _ _ _ _ _ _ _ _ _ _ _ _ _ UU.ok hr (by rfl) UU.m UU.kp UU.b .nil pass0 (@pa_cons _ _ _ _ _ (@pv _ 0 _ _ (by rfl) (by first | exact Or.inl rfl | exact Or.inr (Or.inl rfl) | exact Or.inr (Or.inr rfl)) (by decide) (by decide)) (@pa_cons _ _ _ _ _ (@pv _ 1 _ _ (by rfl) (by first | exact Or.inl rfl | exact Or.inr (Or.inl rfl) | exact Or.inr (Or.inr rfl)) (by decide) (by decide)) pa_nil (by rfl)) (by rfl)) (by decide) (by rfl) (by rfl)) pe_non (by rfl)))), ?_⟩
  refine ⟨_, rfl, _, rfl, r, fr, er, ps, N, so, ls, rfl, ok, na, hso, lok, fun d H1 tp ev s1 => ?_, fun d k hk one other p H1 tp ev fu s1 hp => ?_⟩
  · exact ⟨rfl, kn d H1 tp ev s1⟩
  · exact ⟨rfl, kp d k hk one other H1 tp ev fu s1⟩
end
end K33
end
section
set_option maxHeartbeats 4000001
namespace L2
open PySem PySem.Spec PyProof.Rows
def cxCompC (X : Cx) (N' : List Str) (scope : Scope) (y : Str) (k : Addr) (C : Addr) (s₀ : Shared) (H₀ : Hp) (fp : List Addr) (pins : List (Addr × Obj)) : Cx :=
  { X with N := N', s₀ := s₀, H₀ := H₀, env := compEnvC scope ((y, k) :: clOf X.env.cells scope.names []) C X.env, outer := X.stack, stack := X.stack, ex := fp, fn := fun x => x == y, pn := X.pn ++ pins, xe := fun _ _ => False }
structure CapOkC (N N' : List Str) (sc scope : Scope) (y : Str) (cap : List (Option Nat)) : Prop where
  kind : scope.kind = .function
  one : scope.names.filter (fun p => p.2 == .cell) = [(y, .cell)]
  own : scope.names.lookup y = some .cell
  names : ∀ y ∈ scope.names, y.2 = .local → scope.names.lookup y.1 = some .local
  free : ∀ y ∈ scope.names, y.2 = .free → sc.names.lookup y.1 = some .cell ∨ sc.names.lookup y.1 = some .free
  len : cap.length = N'.length
  cap : ∀ p ∈ N'.zip cap, ∀ i, p.2 = some i → N[i]? = some p.1 ∧ scope.names.lookup p.1 = some .free ∧ (sc.names.lookup p.1 = some .cell ∨ sc.names.lookup p.1 = some .free)
theorem CapOkC.only {N N' : List Str} {sc scope : Scope} {y : Str} {cap : List (Option Nat)} (ck : CapOkC N N' sc scope y cap) {x : Str} (h : scope.names.lookup x = some .cell) : x = y := by
  have m : (x, NameKind.cell) ∈ scope.names.filter (fun p => p.2 == .cell) := List.mem_filter.mpr ⟨lookup_mem h, rfl⟩
  rw [ck.one] at m
  exact congrArg Prod.fst (List.mem_singleton.mp m)
theorem noCells : ∀ (names : List (Str × NameKind)) (cs : List (Str × Addr)), (∀ p ∈ names, ¬ (p.2 == NameKind.cell) = true) →
    (forIn names cs fun x r => match x with | (name, kind) => if (kind == NameKind.cell) = true then (do let a ← alloc { cls := .type "cell", data := .cell none }; pure (ForInStep.yield ((name, a) :: r))) else pure (ForInStep.yield r) : Sem (List (Str × Addr))) = pure cs
  | [], cs, _ => rfl
  | (n, k) :: r, cs, h => by
    rw [List.forIn_cons]
    have e := h (n, k) List.mem_cons_self
    simp only [e, Bool.false_eq_true, if_false, pure_bind]
    exact noCells r cs fun p hp => h p (List.mem_cons_of_mem _ hp)
theorem oneCell {names : List (Str × NameKind)} {y : Str} (one : names.filter (fun p => p.2 == .cell) = [(y, .cell)]) (cs : List (Str × Addr)) :
    (forIn names cs fun x r => match x with | (name, kind) => if (kind == NameKind.cell) = true then (do let a ← alloc { cls := .type "cell", data := .cell none }; pure (ForInStep.yield ((name, a) :: r))) else pure (ForInStep.yield r) : Sem (List (Str × Addr))) = (do let a ← alloc { cls := .type "cell", data := .cell none }; pure ((y, a) :: cs)) := by
  obtain ⟨l1, l2, rfl, h1, _, h2⟩ := List.filter_eq_cons_iff.mp one
  have h2' : ∀ p ∈ l2, ¬ (p.2 == NameKind.cell) = true := fun p hp => List.filter_eq_nil_iff.mp h2 p hp
  clear one h2
  induction l1 with
  | nil =>
    rw [List.nil_append, List.forIn_cons]
    have e : (NameKind.cell == NameKind.cell) = true := rfl
    simp only [e, if_true, bind_assoc, pure_bind]
    exact congrArg (fun k => alloc _ >>= k) (funext fun a => noCells l2 _ h2')
  | cons p r ih =>
    obtain ⟨n, k⟩ := p
    rw [List.cons_append, List.forIn_cons]
    have e := h1 (n, k) List.mem_cons_self
    simp only [e, Bool.false_eq_true, if_false, pure_bind]
    exact ih fun p hp => h1 p (List.mem_cons_of_mem _ hp)
theorem wpAny_envC {M : Model} {A : Around} {E : Value → Shared → Prop} {s : Shared} {scope : Scope} {g : Addr} {cl : List (Str × Addr)} {q : Str} {env : Env} {y : Str} {Q : Env → Shared → Prop} (one : scope.names.filter (fun p => p.2 == .cell) = [(y, .cell)])
    (h : ∀ h', h'.Ns s.heap.objs.size (fun _ => none) → h'.IsCell (s.heap.objs.size + 1) none → (∀ b o, s.heap.get? b = some o → h'.get? b = some o) →
      Q { scope := scope, locals := s.heap.objs.size, globals := g, cells := (y, s.heap.objs.size + 1) :: cl, qual := q, func := none, code := env.code, frame := env.frame, builtins := env.builtins } { s with heap := h' }) :
    wpAny M A (newFunctionEnv scope g cl [] q none Value.none (some env)) Q E s := by
  unfold newFunctionEnv
  refine wpAny_bind (wpAny_alloc (show wpAny M A _ Q E _ from ?_))
  dsimp only
  rw [oneCell one]
  refine wpAny_bind (wpAny_bind (wpAny_alloc (wpAny_pure (show wpAny M A _ Q E _ from ?_))))
  dsimp only
  refine wpAny_bind ?_
  rw [List.forIn_nil]
  refine wpAny_pure (wpAny_pure (show Q _ _ from ?_))
  have hz : (s.heap.push ({ cls := .type "dict", data := .dict #[] } : Obj)).objs.size = s.heap.objs.size + 1 := Heap.size_push ..
  have e1 : (s.heap.push ({ cls := .type "dict", data := .dict #[] } : Obj)).get? s.heap.objs.size = some { cls := .type "dict", data := .dict #[] } := Heap.get?_push_size _ rfl
  have e2 := Heap.get?_push_of_some ({ cls := .type "cell", data := .cell none } : Obj) e1
  have e3 : ((s.heap.push ({ cls := .type "dict", data := .dict #[] } : Obj)).push ({ cls := .type "cell", data := .cell none } : Obj)).get? (s.heap.objs.size + 1) = some { cls := .type "cell", data := .cell none } := by
    rw [← hz]; exact Heap.get?_push_size _ rfl
  have hq := h _ ⟨_, _, _, e2, rfl, by intro x hx; simp at hx, fun _ => rfl⟩ ⟨_, e3, rfl⟩ fun b o e => Heap.get?_push_of_some _ (Heap.get?_push_of_some _ e)
  rw [← hz] at hq
  exact hq
theorem lc_coreC {X : Cx} {elt tg iter : Expr} {o : Option Expr} {scope : Scope} {pos ppos : Pos} {wi : TI} {g : TG} {tt : TT} {te : TE} {N' : List Str} {y : Str} {cap : List (Option Nat)} {use : Option (Value → Sem Unit)} {Q0 : Value → Shared → Prop}
    (hc : X.calm = true) (hi : PI X tg iter wi) (ck : CapOkC X.N N' X.env.scope scope y cap)
    (hg : ∀ k C s₀ H₀ fp pins, PG (cxCompC X N' scope y k C s₀ H₀ fp pins) tg g)
    (ht : ∀ k C s₀ H₀ fp pins, PTo (cxCompC X N' scope y k C s₀ H₀ fp pins) o tt)
    (he : ∀ k C s₀ H₀ fp pins, PE (cxCompC X N' scope y k C s₀ H₀ fp pins) elt te)
    (hs : ∀ x, foldedSetIterable iter X.env x = pure x) {pins : List (Addr × Obj)} {s : Shared} {σ : St} {H : Hp} {Q : VK} (I : Inv X pins σ H s) (h : tLC cap wi g tt te σ H Q)
    (fin : ∀ (l C : Addr) (H4 : Hp) (s5 : Shared) (m : Str → Option Value), Inv X pins σ H4 s5 → Q (.ref l) H4 → s5.heap.Ns C m → FpOk X pins H4 C → compPost (model X.prog X.w) X.A X.xe use Q0 (.ref l) C (.ok .next) s5) :
    wpAny (model X.prog X.w) X.A (comprehension (.ListComp elt [⟨tg, iter, o.toList, 0⟩] scope pos) scope X.env ppos (newList []) false (eval iter X.env) use) Q0 X.xe s := by
  have hcells : ∀ y ∈ scope.names, y.2 = .free → ∃ c, X.env.cells.lookup y.1 = some c := fun y hy hf => I.ok.has y.1 (ck.free y hy hf)
  refine wpAny_comprehension_free (use := use) rfl hs (closure_eq hcells) ck.kind ck.names (thn (hi pins s σ H _ I h) fun v s1 h1 => thn h1 fun itv s2 h2 => ?_)
  obtain ⟨it, fp, tn, J, H2, e, I2, T, st2, f2, body⟩ := h2
  subst e
  have hfr2 : H2 s2.heap.objs.size = none := I2.hok.fresh (Nat.le_refl _)
  obtain ⟨W, ⟨m0, w0⟩, turn⟩ := body s2.heap.objs.size hfr2
  have I3 : Inv X pins σ (upd H2 s2.heap.objs.size (.lst [])) { s2 with heap := s2.heap.push { cls := .type "list", data := .seq ([] : List Value).toArray }, toks := s2.toks } := I2.lnew (its := []) (t' := s2.toks) .nil (Nat.zero_le _)
  refine wpAny_newObj_type (wpAny_envC ck.one fun h₁ hns₁ hcl₁ old₀ => ?_)
  dsimp only at hns₁ hcl₁ old₀ ⊢
  generalize hl : s2.heap.objs.size = l at *
  generalize hP : s2.heap.push { cls := .type "list", dict := none, data := .seq ([] : List Value).toArray } = P2 at *
  generalize hH3 : upd H2 l (.lst []) = H3 at *
  have old : ∀ b o, P2.get? b = some o → h₁.get? b = some o := old₀
  have old2 : ∀ b o, s2.heap.get? b = some o → P2.get? b = some o := fun b o e => hP ▸ Heap.get?_push_of_some _ e
  have fpl : ∀ b ∈ fp, b < l := fun b hb => by
    obtain ⟨o, e, _⟩ := T.obj _ _ st2 b hb
    rw [← hl]; exact Heap.lt_size e
  have fp3 : ∀ b ∈ fp, H3 b = none := fun b hb => by
    rw [← hH3, upd_ne (Nat.ne_of_lt (fpl b hb))]; exact (f2 b hb).1
  have hPs : P2.objs.size = l + 1 := by rw [← hP, Heap.size_push, hl]
  have subc : ∀ x c, (clOf X.env.cells scope.names []).lookup x = some c → X.env.cells.lookup x = some c := fun x c e => clOf_sub _ _ x c hcells (fun _ _ z => by simp at z) e
  generalize hs3 : ({ s2 with heap := P2, toks := s2.toks } : Shared) = s3 at *
  have hs3h : s3.heap = P2 := by rw [← hs3]
  have only : ∀ {x c}, ((y, P2.objs.size + 1) :: clOf X.env.cells scope.names []).lookup x = some c → (x = y ∧ c = P2.objs.size + 1) ∨ (x ≠ y ∧ X.env.cells.lookup x = some c) := fun {x c} e => by
    rw [List.lookup_cons] at e
    cases hx : x == y with
    | true => rw [hx] at e; exact .inl ⟨by simpa using hx, (Option.some.inj e).symm⟩
    | false => rw [hx] at e; exact .inr ⟨by simpa using hx, subc x c e⟩
  have back : ∀ {x c}, x ≠ y → (clOf X.env.cells scope.names []).lookup x = some c → ((y, P2.objs.size + 1) :: clOf X.env.cells scope.names []).lookup x = some c := fun {x c} n e => by
    rw [List.lookup_cons, show (x == y) = false by simpa using n]; exact e
  have small : ∀ {x c}, X.env.cells.lookup x = some c → c < P2.objs.size := fun {x c} e => by
    obtain ⟨v, ob, e', _⟩ := I3.cell x c e
    rw [hs3h] at e'
    exact Heap.lt_size e'
  let Y := cxCompC X N' scope y (P2.objs.size + 1) P2.objs.size s3 H3 fp pins
  have hYok : Y.Ok := by
    refine ⟨I3.ok.mod, ck.kind, I3.ok.glob, I3.ok.blt, by show s3.heap.objs.size ≤ P2.objs.size; rw [hs3h]; exact Nat.le_refl _, fun x z c e1 e2 => ?_, fun x hx => ?_, fun x c hx e => ?_, I3.ok.hd, I3.ok.frames, .inl rfl, fun b hb => ⟨?_, fun x c e => ?_⟩, I3.bs,
      Nat.le_trans I3.ok.bsz I3.sz, fun b o e hb => ?_, fun b hb hz => ?_, I3.stack, I3.stkFree⟩
    · rcases only e1 with ⟨q1, p1⟩ | ⟨_, q1⟩
      · rcases only e2 with ⟨q2, p2⟩ | ⟨_, q2⟩
        · rw [q1, q2]
        · exact absurd (small q2) (by rw [p1]; exact Nat.not_lt.mpr (Nat.le_succ _))
      · rcases only e2 with ⟨q2, p2⟩ | ⟨_, q2⟩
        · exact absurd (small q1) (by rw [p2]; exact Nat.not_lt.mpr (Nat.le_succ _))
        · exact I3.ok.inj x z c q1 q2
    · by_cases hxy : x = y
      · exact ⟨P2.objs.size + 1, by rw [hxy]; show List.lookup y ((y, P2.objs.size + 1) :: _) = _; rw [List.lookup_cons, beq_self_eq_true]⟩
      · have hx' : scope.names.lookup x = some .free := by
          rcases hx with hx | hx
          · rcases relabel_kind hx with z | z
            · exact absurd (ck.only z) hxy
            · exact z.2
          · rcases relabel_kind hx with z | z
            · exact z
            · exact z.2
        obtain ⟨c, hc'⟩ := clOf_has (cells := X.env.cells) scope.names [] x hx'
        exact ⟨c, back hxy hc'⟩
    · rcases only e with ⟨_, p1⟩ | ⟨n, _⟩
      · rw [p1]; show s3.heap.objs.size ≤ _; rw [hs3h]; lia
      · exact absurd (beq_iff_eq.mp (show (x == y) = true from hx)) n
    · exact Nat.ne_of_lt (by show b < P2.objs.size; rw [hPs]; exact Nat.lt_succ_of_lt (fpl b hb))
    · rcases only e with ⟨_, p1⟩ | ⟨_, q1⟩
      · have := fpl b hb
        rw [p1]; exact Nat.ne_of_gt (Nat.lt_succ_of_lt (by rw [hPs]; exact Nat.lt_succ_of_lt this))
      · exact (f2 b hb).2.2.2.2.1 x c q1
    · rcases (f2 b hb).2.2.2.1 with z | z
      · exact I3.ok.noex b o e z
      · exact absurd (Nat.lt_of_lt_of_le (Heap.lt_size e) (Nat.le_trans I3.ok.bsz z)) (Nat.lt_irrefl _)
    · rcases List.mem_cons.mp (I3.stkSub b hz) with z | z
      · exact (f2 b hb).2.1 z
      · exact (f2 b hb).2.2.1 z
  have hYi : Inv Y [] (capσ cap σ) H3 { s2 with heap := h₁, toks := s2.toks } := by
    refine ⟨hYok, by show s2.os = s3.os; rw [← hs3], I2.bare, by show Un _ _ _ _ s3.heap h₁; rw [hs3h]; exact Un.kept old, ⟨_, hns₁, fun j x v e1 e2 e3 => ?_⟩, fun x c e => ?_, ?_, fun x c e => ?_, fun p hp => ?_, fun b o e => ?_, ?_⟩
    · have e1' : N'[j]? = some x := e1
      unfold capσ at e2
      rw [List.getElem?_map] at e2
      cases ec : cap[j]? with
      | none => rw [ec] at e2; cases e2
      | some oc =>
        rw [ec] at e2
        cases oc with
        | none => cases e2
        | some i =>
          have e2' : σ[i]? = some (some v) := by
            cases ei : σ[i]? with
            | none => simp [ei] at e2
            | some v' =>
              simp [ei] at e2
              rw [e2]
          have hz : (x, some i) ∈ N'.zip cap := by
            refine List.mem_of_getElem? (i := j) ?_
            rw [List.getElem?_zip_eq_some]
            exact ⟨e1', ec⟩
          obtain ⟨hN, hf, hk⟩ := ck.cap _ hz i rfl
          obtain ⟨m, hn, hlo⟩ := I3.loc
          obtain ⟨u, r, lk⟩ := hlo i x v hN e2' (by rcases hk with z | z; exact .inr (.inl z); exact .inr (.inr z))
          refine ⟨u, r, .inr ⟨?_, ?_⟩⟩
          · exact relabel_free hf
          · rcases lk with ⟨z, _⟩ | ⟨_, c, hcx, hcell⟩
            · have z' : X.env.scope.names.lookup x = some .local := z
              rcases hk with q | q
              · rw [q] at z'; cases z'
              · rw [q] at z'; cases z'
            · obtain ⟨c', hc'⟩ := clOf_has (cells := X.env.cells) scope.names [] x hf
              have := subc x c' hc'
              rw [hcx] at this; cases this
              obtain ⟨ob, e, d⟩ := hcell
              rw [hs3h] at e
              have hxy : x ≠ y := fun q => by rw [q, ck.own] at hf; cases hf
              exact ⟨c, back hxy hc', ob, old c ob e, d⟩
    · rcases only e with ⟨_, p1⟩ | ⟨_, q1⟩
      · rw [p1]; exact ⟨none, hcl₁⟩
      · obtain ⟨v, ob, e', d⟩ := I3.cell x c q1
        rw [hs3h] at e'
        exact ⟨v, ob, old c ob e', d⟩
    · refine I3.hok.fresh ?_
      rw [hs3h]; exact Nat.le_refl _
    · rcases only e with ⟨_, p1⟩ | ⟨_, q1⟩
      · rw [p1]; exact I3.hok.fresh (by rw [hs3h]; lia)
      · exact I3.freeC x c q1
    · have hp' : p ∈ X.pn ++ pins := (List.mem_append.mp hp).elim (fun z => z) (fun z => nomatch z)
      obtain ⟨e, n, ne, nf, d⟩ := I3.pin p hp'
      rw [hs3h] at e
      refine ⟨old _ _ e, n, Nat.ne_of_lt (Heap.lt_size e), fun z => ?_, d⟩
      rcases List.mem_cons.mp (I3.stkSub _ z) with q | q
      · exact ne q
      · exact nf q
    · have := I3.hok.kept (h' := h₁) (fun b u q => old b u (by rw [← hs3h]; exact q))
      exact this b o e
    · show (cap.map _).length = N'.length
      rw [List.length_map, ck.len]
  have stat : ∀ {H' : Hp}, (∀ b ∈ fp, H' b = none) → ∀ b ∈ fp, FpOk Y [] H' b := fun {H'} hn b hb => by
    refine ⟨hn b hb, (hYok.exf b hb).1, hYok.exfs b hb, .inl hb, (hYok.exf b hb).2, fun p hp => ?_⟩
    have hp' : p ∈ X.pn ++ pins := (List.mem_append.mp hp).elim (fun z => z) (fun z => nomatch z)
    exact (f2 b hb).2.2.2.2.2 p hp'
  have st1 : tn 0 h₁ := T.keep 0 _ _ st2 fun b hb o e => old b o (old2 b o e)
  have loop : codeAny (model X.prog X.w) X.A (.compLoop (.ListComp elt [⟨tg, iter, o.toList, 0⟩] scope pos) 0 (.ref it) (.ref l) Y.env) (compPost (model X.prog X.w) X.A X.xe use Q0 (.ref l) P2.objs.size) { s2 with heap := h₁, toks := s2.toks } := by
    refine comp_loop (fun n s' => ∃ i acc σ' H', Inv Y [] σ' H' s' ∧ tn i s'.heap ∧ (∀ b ∈ fp, H' b = none) ∧ W i n acc σ' H') ?_ m0 ⟨0, [], _, H3, hYi, st1, fp3, w0⟩
    rintro n s4 ⟨i, acc, σ4, H4, I4, st4, fr4, w4⟩
    obtain ⟨hlst, q4⟩ := turn i n acc σ4 H4 w4
    rcases q4 with ⟨stop, qn⟩ | ⟨go, step⟩
    · refine thn (T.done Y rfl rfl rfl hc i [] s4 σ4 H4 Y.xe I4 (stat fr4) st4 stop) fun r s5 ⟨hr, I5⟩ => ?_
      subst hr
      obtain ⟨m, hn, _⟩ := id I5.loc
      have un : Un (frs X.stack) fp H3 H4 s3.heap s5.heap := I5.base
      have sz3 : s3.heap.objs.size ≤ P2.objs.size := by rw [hs3h]; exact Nat.le_refl _
      have IX : Inv X pins σ H4 s5 := I3.call' (ch := fp) I5.os un I5.hok I5.bare fun b hb => ⟨(f2 b hb).2.2.2.1, (f2 b hb).2.1, (f2 b hb).2.2.2.2.1, (f2 b hb).2.2.2.2.2⟩
      exact fin l P2.objs.size H4 s5 m IX qn hn (I3.fpOk sz3 I5.free)
    · refine thn (T.item Y rfl rfl rfl hc i [] s4 σ4 H4 Y.xe I4 (stat fr4) st4 go) fun r s5 ⟨u, hr, h5⟩ => ?_
      subst hr
      refine thn h5 fun _ s6 ⟨x, H6, I6, r6, y6, st6, fr6⟩ => ?_
      have I6' := I6.pinned (stat fr6) (T.obj _ _ st6)
      refine thn (hg _ _ _ _ _ _ _ s6 σ4 H6 x u _ I6' r6 (step x H6 y6)) fun _ s7 ⟨σ7, H7, I7, q7⟩ => ?_
      refine tst_mono (ht _ _ _ _ _ _ _ s7 σ7 H7 _ I7 q7) fun b s8 ⟨H8, I8, q8⟩ => ?_
      have again : ∀ {σ9 : St} {H9 : Hp} {s9 : Shared} {acc9 : List V}, Inv Y ([] ++ pinsAt fp s6.heap) σ9 H9 s9 → (∃ m', m' < n ∧ W (i + 1) m' acc9 σ9 H9) → ∃ m, m < n ∧ ∃ i acc σ' H', Inv Y [] σ' H' s9 ∧ tn i s9.heap ∧ (∀ b ∈ fp, H' b = none) ∧ W i m acc σ' H' := fun {σ9 H9 s9 acc9} I9 ⟨m', hm, w9⟩ => by
        refine ⟨m', hm, i + 1, acc9, σ9, H9, I9.unpinned, T.keep _ _ _ st6 fun b hb o e => (I9.pin (b, o) (List.mem_append_right _ (List.mem_append_right _ (mem_pinsAt hb e)))).1, fun b hb => ?_, w9⟩
        obtain ⟨o, e, d⟩ := T.obj _ _ st6 b hb
        exact (I9.pin (b, o) (List.mem_append_right _ (List.mem_append_right _ (mem_pinsAt hb e)))).2.1
      cases b with
      | false =>
        rw [if_neg Bool.false_ne_true] at q8 ⊢
        exact again I8 q8
      | true =>
        rw [if_pos rfl] at q8 ⊢
        refine thn (he _ _ _ _ _ _ _ s8 σ7 H8 _ I8 q8) fun yv s9 ⟨y, H9, I9, r9, hl9, hz9, q9⟩ => ?_
        refine thn (mt_append (X := Y) _ s9 σ7 H9 (.ref l) [y] (.ref l) [yv] (fun _ H' => H' = upd H9 l (.lst (acc ++ [y]))) I9 rfl (.cons r9 .nil) ⟨l, acc, y, rfl, rfl, hl9, hz9, rfl⟩) fun _ s10 ⟨_, H10, I10, _, e10⟩ => ?_
        subst e10
        exact again I10 q9
  exact codeAny_compStart_list loop (T.self X.A 0 _ _ _ st1 loop)
theorem pe_lcC {X : Cx} {elt tg iter : Expr} {o : Option Expr} {scope : Scope} {pos : Pos} {wi : TI} {g : TG} {tt : TT} {te : TE} {N' : List Str} {y : Str} {cap : List (Option Nat)}
    (hc : X.calm = true) (hi : PI X tg iter wi) (ck : CapOkC X.N N' X.env.scope scope y cap)
    (hg : ∀ k C s₀ H₀ fp pins, PG (cxCompC X N' scope y k C s₀ H₀ fp pins) tg g)
    (ht : ∀ k C s₀ H₀ fp pins, PTo (cxCompC X N' scope y k C s₀ H₀ fp pins) o tt)
    (he : ∀ k C s₀ H₀ fp pins, PE (cxCompC X N' scope y k C s₀ H₀ fp pins) elt te)
    (hs : ∀ x, foldedSetIterable iter X.env x = pure x := by intro _; rfl) :
    PE X (.ListComp elt [⟨tg, iter, o.toList, 0⟩] scope pos) (tLC cap wi g tt te) := by
  intro pins s σ H Q I h
  rw [eval_ListComp]
  exact lc_coreC (use := none) hc hi ck hg ht he hs I h fun l C H4 s5 m I5 q hn f => ⟨m, hn, fun h' sb => ⟨.ref l, H4, I5.gone f sb, rfl, q⟩⟩
def capBC (N N' : List Str) (sc scope : Scope) (y : Str) (cap : List (Option Nat)) : Bool :=
  decide (scope.kind = .function) && decide ((scope.names.filter fun p => p.2 == .cell).map (·.1) = [y]) && decide (scope.names.lookup y = some .cell) && (scope.names.all fun y => (decide (y.2 ≠ .local) || decide (scope.names.lookup y.1 = some .local)) &&
    (decide (y.2 ≠ .free) || (decide (sc.names.lookup y.1 = some .cell) || decide (sc.names.lookup y.1 = some .free)))) && decide (cap.length = N'.length) &&
  ((N'.zip cap).all fun p => match p.2 with
    | none => true
    | some i => decide (N[i]? = some p.1) && (decide (scope.names.lookup p.1 = some .free) && (decide (sc.names.lookup p.1 = some .cell) || decide (sc.names.lookup p.1 = some .free))))
theorem CapOkC.of {N N' : List Str} {sc scope : Scope} {y : Str} {cap : List (Option Nat)} (h : capBC N N' sc scope y cap = true) : CapOkC N N' sc scope y cap := by
  unfold capBC at h
  simp only [Bool.and_eq_true, List.all_eq_true, Bool.or_eq_true, decide_eq_true_eq] at h
  obtain ⟨⟨⟨⟨⟨h1, h0⟩, h5⟩, h2⟩, h3⟩, h4⟩ := h
  have one : scope.names.filter (fun p => p.2 == .cell) = [(y, .cell)] := by
    cases e : scope.names.filter (fun p => p.2 == .cell) with
    | nil => rw [e] at h0; cases h0
    | cons p r =>
      rw [e] at h0
      cases r with
      | cons q t => exact absurd (congrArg List.length h0) (by simp)
      | nil =>
        obtain ⟨n, k⟩ := p
        have hn : n = y := by simpa using h0
        have hk : (k == NameKind.cell) = true := (List.mem_filter.mp (e ▸ List.mem_singleton.mpr rfl : (n, k) ∈ scope.names.filter fun p => p.2 == .cell)).2
        have hk' : k = .cell := by cases k <;> first | rfl | cases hk
        rw [hn, hk']
  refine ⟨h1, one, h5, fun y hy e => ?_, fun y hy e => ?_, h3, fun p hp i e => ?_⟩
  · rcases (h2 y hy).1 with z | z
    · exact absurd e z
    · exact z
  · rcases (h2 y hy).2 with z | z
    · exact absurd e z
    · exact z
  · have q := h4 p hp
    rw [e] at q
    simp only [Bool.and_eq_true, Bool.or_eq_true, decide_eq_true_eq] at q
    exact ⟨q.1, q.2.1, q.2.2⟩
end L2
end
section
set_option maxHeartbeats 4000001
namespace Bn
open PySem L2 Own
theorem layer_in {n : Nat} {fs : List (Nat × Nat)} {i : Nat} (il : i < fs.length) : 1 + big ((lay n (fs.take i)).1.getD fs[i].1 0) ((lay n (fs.take i)).1.getD fs[i].2 0) ∈ (lay n fs).2 := by
  have go : ∀ j, i + 1 ≤ j → j ≤ fs.length → 1 + big ((lay n (fs.take i)).1.getD fs[i].1 0) ((lay n (fs.take i)).1.getD fs[i].2 0) ∈ (lay n (fs.take j)).2 := fun j => by
    induction j with
    | zero => intro h; lia
    | succ j ihj =>
      intro h h'
      rw [lay_take (List.getElem?_eq_getElem (show j < fs.length by lia))]
      by_cases e : i = j
      · subst e; unfold layStep; simp
      · unfold layStep; exact List.mem_append_left _ (ihj (by lia) (by lia))
  have := go fs.length (by lia) (Nat.le_refl _)
  rwa [List.take_length] at this
end Bn
end
section
set_option maxHeartbeats 4000001
namespace L2
open PySem PySem.Spec PyProof.Rows Own
def FlD (x : V) (d : PyData) : Prop := (∃ i, x = .int i ∧ d = .int i) ∨ (∃ z, x = .str z ∧ d = .str z ∧ (PyData.str z).canLay0 = true) ∨ (∃ b, x = .bl b ∧ d = .bool b) ∨ (x = .non ∧ d = .none)
def DD (H : Hp) : Nat → V → PyData → Prop
  | 0, x, d => FlD x d
  | n + 1, x, d => FlD x d ∨ ∃ a xs ds, x = .ref a ∧ xs.length = ds.length ∧ ((d = .tuple ds ∧ H a = some (.tup xs)) ∨ (d = .list ds ∧ H a = some (.lst xs))) ∧ ∀ (j : Nat) (u : V) (e : PyData), xs[j]? = some u → ds[j]? = some e → DD H n u e
theorem DD.same {H H' : Hp} (s : Same H H') : ∀ {n : Nat} {x : V} {d : PyData}, DD H n x d → DD H' n x d
  | 0, _, _, h => h
  | n + 1, _, _, h => by
    rcases h with h | ⟨a, xs, ds, e1, e2, h1, h2⟩
    · exact .inl h
    · refine .inr ⟨a, xs, ds, e1, e2, ?_, fun j u e p q => DD.same s (h2 j u e p q)⟩
      rcases h1 with ⟨y, z⟩ | ⟨y, z⟩
      · exact .inl ⟨y, s _ _ z⟩
      · exact .inr ⟨y, s _ _ z⟩
theorem DD.fl {H : Hp} {n : Nat} {x : V} {d : PyData} (h : FlD x d) : DD H n x d := by
  cases n
  · exact h
  · exact .inl h
theorem DD.i {H : Hp} {n : Nat} (i : Int) : DD H n (.int i) (.int i) := DD.fl (.inl ⟨i, rfl, rfl⟩)
theorem DD.tup {H : Hp} {n : Nat} {a : Addr} {xs : List V} {ds : List PyData} (h : H a = some (.tup xs)) (l : xs.length = ds.length) (f : ∀ (j : Nat) (u : V) (e : PyData), xs[j]? = some u → ds[j]? = some e → DD H n u e) : DD H (n + 1) (.ref a) (.tuple ds) := .inr ⟨a, xs, ds, rfl, l, .inl ⟨rfl, h⟩, f⟩
theorem DD.lst {H : Hp} {n : Nat} {a : Addr} {xs : List V} {ds : List PyData} (h : H a = some (.lst xs)) (l : xs.length = ds.length) (f : ∀ (j : Nat) (u : V) (e : PyData), xs[j]? = some u → ds[j]? = some e → DD H n u e) : DD H (n + 1) (.ref a) (.list ds) := .inr ⟨a, xs, ds, rfl, l, .inr ⟨rfl, h⟩, f⟩
theorem dd_row {H : Hp} {n : Nat} {α : Type} {f : α → V} {g : α → PyData} {l : List α} (h : ∀ x ∈ l, DD H n (f x) (g x)) : (l.map f).length = (l.map g).length ∧ ∀ (j : Nat) (u : V) (e : PyData), (l.map f)[j]? = some u → (l.map g)[j]? = some e → DD H n u e := by
  refine ⟨by rw [List.length_map, List.length_map], fun j u e p q => ?_⟩
  rw [List.getElem?_map] at p q
  cases z : l[j]? with
  | none => rw [z] at p; cases p
  | some x =>
    rw [z] at p q
    obtain rfl := Option.some.inj p
    obtain rfl := Option.some.inj q
    exact h x (List.mem_of_getElem? z)
theorem all_lay : ∀ {ds : List PyData} {n : Nat}, (∀ e ∈ ds, e.canLay0 = true ∧ e.depth ≤ n) → PyData.canLayAll0 ds = true ∧ PyData.depthAll ds ≤ n
  | [], _, _ => ⟨rfl, Nat.zero_le _⟩
  | d :: ds, n, h => by
    obtain ⟨a1, a2⟩ := h d List.mem_cons_self
    obtain ⟨b1, b2⟩ := all_lay (ds := ds) fun e he => h e (List.mem_cons_of_mem _ he)
    refine ⟨?_, ?_⟩
    · show (d.canLay0 && PyData.canLayAll0 ds) = true
      rw [a1, b1]; rfl
    · show max d.depth (PyData.depthAll ds) ≤ n
      lia
theorem FlD.ok {x : V} {d : PyData} (h : FlD x d) : d.canLay0 = true ∧ d.depth ≤ 0 := by
  rcases h with ⟨i, _, rfl⟩ | ⟨z, _, rfl, e⟩ | ⟨b, _, rfl⟩ | ⟨_, rfl⟩
  · exact ⟨rfl, Nat.le_refl _⟩
  · exact ⟨e, Nat.le_refl _⟩
  · exact ⟨rfl, Nat.le_refl _⟩
  · exact ⟨rfl, Nat.le_refl _⟩
theorem DD.ok {H : Hp} : ∀ {n : Nat} {x : V} {d : PyData}, DD H n x d → d.canLay0 = true ∧ d.depth ≤ n
  | 0, _, _, h => FlD.ok h
  | n + 1, _, _, h => by
    rcases h with h | ⟨a, xs, ds, e1, e2, h1, h2⟩
    · have := FlD.ok h
      exact ⟨this.1, by lia⟩
    · obtain ⟨p, q⟩ := all_lay (n := n) (ds := ds) fun e he => by
        obtain ⟨j, jl, ej⟩ := List.getElem_of_mem he
        exact (h2 j _ e (List.getElem?_eq_getElem (by lia)) (by rw [List.getElem?_eq_getElem jl, ej])).ok
      rcases h1 with ⟨rfl, _⟩ | ⟨rfl, _⟩
      · exact ⟨p, Nat.succ_le_succ q⟩
      · exact ⟨p, Nat.succ_le_succ q⟩
section
variable {X : Cx}
theorem FlD.reads {h : Heap} {x : V} {d : PyData} {v : Value} (f : FlD x d) (r : RelV x v) : ∃ as, Reads h v d as := by
  rcases f with ⟨i, rfl, rfl⟩ | ⟨z, rfl, rfl, e⟩ | ⟨b, rfl, rfl⟩ | ⟨rfl, rfl⟩
  · obtain ⟨t, rfl⟩ := r
    exact ⟨_, .int i t⟩
  · obtain ⟨t, rfl⟩ := r
    exact ⟨_, .str z t⟩
  · cases r
    exact ⟨_, .bool b⟩
  · cases r
    exact ⟨_, .none⟩
theorem DD.reads {pins : List (Addr × Obj)} {σ : St} {H : Hp} {s : Shared} (I : Inv X pins σ H s) : ∀ (n : Nat) (x : V) (d : PyData) (v : Value), DD H n x d → RelV x v → ∃ as, Reads s.heap v d as
  | 0, x, d, v, h, r => FlD.reads h r
  | n + 1, x, d, v, h, r => by
    rcases h with h | ⟨a, xs, ds, rfl, hl, h1, hx⟩
    · exact FlD.reads h r
    · cases r
      have key : ∀ its : List Value, Vals xs its → ∃ as, ReadsAll s.heap its ds as := fun its g => by
        have gl := g.length
        exact reads_row (h := s.heap) its ds (by lia) fun j v' d' e1 e2 => by
          have jl : j < xs.length := by have := (List.getElem?_eq_some_iff.mp e1).1; lia
          obtain ⟨w', f1, f2⟩ := g.get (List.getElem?_eq_getElem jl)
          obtain rfl := Option.some.inj (e1.symm.trans f1)
          exact DD.reads I n _ _ _ (hx j _ _ (List.getElem?_eq_getElem jl) e2) f2
      rcases h1 with ⟨rfl, ha⟩ | ⟨rfl, ha⟩
      · obtain ⟨its, g, ⟨o, eo, co, m, dm⟩, _⟩ := I.tuple (SqT.of ha)
        obtain ⟨as, ra⟩ := key its g
        exact ⟨as, .tuple eo co dm (by simpa using ra)⟩
      · obtain ⟨its, g, p, _⟩ := I.list (SqL.of ha)
        obtain ⟨as, ra⟩ := key its g
        obtain ⟨o, eo, co, m, dm⟩ := p.isList
        exact ⟨_, .list eo co dm (by simpa using ra)⟩
def rDat (c : Bool) : R2 := fun x y H Q => ∃ n d d', n ≤ 20 ∧ DD H n x d ∧ DD H n y d' ∧ Q (.bl (if c then PyData.eqv d d' else !PyData.eqv d d')) H
theorem op_neX (hu : X.A.units + 64 < cLine) : OpR X (compareOp .NotEq) (rDat false) := by
  intro pins s σ H x y vx vy Q I rx ry ⟨n, d, d', hn, h1, h2, q⟩
  obtain ⟨as, r1⟩ := h1.reads I _ _ _ _ rx
  obtain ⟨bs, r2⟩ := h2.reads I _ _ _ _ ry
  have k1 := h1.ok
  have k2 := h2.ok
  exact PySem.SeqAt.compareNe_reads r1 r2 k1.1 k2.1 (by have := k1.2; lia) ⟨.bl _, H, I, rfl, q⟩
end
end L2
end
section
set_option maxHeartbeats 4000001
namespace L2
open PySem PySem.Spec PyProof.Rows Own
section
variable {X : Cx}
end
end L2
end
section
set_option maxHeartbeats 4000001
namespace L2
open PySem PySem.Spec PyProof.Rows Own
section
variable {X : Cx} {e e2 : Expr} {ta tb : TE} {p kp pos : Pos}
end
section
variable {X : Cx}
end
end L2
end
section
set_option maxHeartbeats 4000001
namespace Bn
open PySem L2 Own
end Bn
end
section
set_option maxHeartbeats 4000001
namespace Bn
open PySem L2 Own
end Bn
end
section
set_option maxHeartbeats 4000001
namespace Bn
open PySem L2 Own
end Bn
end
section
set_option maxHeartbeats 4000001
namespace L2
open PySem PySem.Spec PyProof.Rows
section
variable {X : Cx}
end
end L2
end
section
set_option maxHeartbeats 4000001
namespace Bn
open PySem L2 Own
theorem top_one {N : Nt} {d e : Nat} (h : IsTop N d) (g : IsTop N e) : d = e := by
  obtain ⟨a, b⟩ := h
  obtain ⟨a', b'⟩ := g
  have x : (d : Int) ≤ e := by
    rcases List.mem_cons.mp b with z | z
    · lia
    · exact a' _ z
  have y : (e : Int) ≤ d := by
    rcases List.mem_cons.mp b' with z | z
    · lia
    · exact a _ z
  lia
end Bn
end
section
set_option maxHeartbeats 4000001
namespace Bn
open PySem L2 Own
end Bn
namespace Bn
open PySem L2 Own
end Bn
end
section
set_option maxHeartbeats 4000001
namespace Bn
open PySem L2 Own
end Bn
end
section
set_option maxHeartbeats 4000001
namespace Bn
open PySem L2 Own
theorem alone_sum {n lane : Nat} (h : lane < n) (m : Int) : (aloneL n lane m).sum = m := by
  unfold aloneL
  have z : ∀ k : Nat, (List.replicate k (0 : Int)).sum = 0 := fun k => by
    induction k with
    | zero => rfl
    | succ k ih => rw [List.replicate_succ, List.sum_cons, ih]; rfl
  rw [sum_set _ _ _ (by rw [List.length_replicate]; exact h), z, List.getD_eq_getElem?_getD, List.getElem?_replicate, if_pos h]
  show 0 - 0 + m = m
  lia
theorem share_sum {N : Nt} (ok : N.Ok) {lane : Nat} (h : lane < N.lanes) (m : Int) : (endsM N (aloneL N.lanes lane m)).sum = m := by
  rw [ends_sum ok (by unfold aloneL; rw [List.length_set, List.length_replicate]), alone_sum h]
end Bn
end
section
set_option maxHeartbeats 4000001
namespace Bn
open PySem L2 Own
theorem even_at {N : Nt} (ok : N.Ok) {d : Nat} (hd : ∀ z ∈ layers N, z ≤ d) (lane : Nat) {i : Nat} (il : i < N.forks.length) : (2 : Int) ∣ (flow (N.forks.take i) (aloneL N.lanes lane (pw d))).1.getD N.forks[i].1 0 + (flow (N.forks.take i) (aloneL N.lanes lane (pw d))).1.getD N.forks[i].2 0 := by
  have okf := ok.fk _ (List.getElem_mem il)
  have okall : ∀ f ∈ N.forks, f.1 < N.lanes ∧ f.2 < N.lanes := fun f hf => ⟨(ok.fk f hf).1, (ok.fk f hf).2.1⟩
  have al := alone_len N.lanes lane (pw d)
  have L := (more_flow (d := d) (n := N.lanes) (fs := N.forks) okall (cs := aloneL N.lanes lane (pw d)) (k := 0) al al hd (alone_left d N.lanes lane) i (by lia)).2
  have ln := lay_lens (n := N.lanes) i N.forks (by lia)
  have fl := flow_len (N.forks.take i) (aloneL N.lanes lane (pw d))
  exact (left_step (fo := (lay N.lanes (N.forks.take i)).2) (ts := (flow (N.forks.take i) (aloneL N.lanes lane (pw d))).2) okf.1 okf.2.1 ln.1 (by lia) (lay_tops okall i (by lia) _ okf.1).1 (lay_tops okall i (by lia) _ okf.2.1).1 (hd _ (layer_in il)) L).1
theorem map_sum_add {α : Type} (l : List α) (f g : α → Int) : (l.map fun x => f x + g x).sum = (l.map f).sum + (l.map g).sum := by
  induction l with
  | nil => rfl
  | cons a l ih => simp only [List.map_cons, List.sum_cons, ih]; lia
theorem map_sum_two {α : Type} (l : List α) (f : α → Int) : (l.map fun x => 2 * f x).sum = 2 * (l.map f).sum := by
  induction l with
  | nil => rfl
  | cons a l ih => simp only [List.map_cons, List.sum_cons, ih]; lia
theorem map_sum_eq {α : Type} (l : List α) (f g : α → Int) (h : ∀ x ∈ l, f x = g x) : (l.map f).sum = (l.map g).sum := by
  rw [List.map_congr_left h]
theorem getD_put {l : List Int} {i : Nat} {x : Int} (h : i < l.length) (j : Nat) : (l.set i x).getD j 0 = if j = i then x else l.getD j 0 := by
  rw [List.getD_eq_getElem?_getD, List.getElem?_set]
  by_cases e : i = j
  · subst e; rw [if_pos rfl, if_pos h, if_pos rfl]; rfl
  · rw [if_neg e, if_neg (fun z => e z.symm), List.getD_eq_getElem?_getD]
def col (N : Nt) (d i j : Nat) : Int := ((List.range N.lanes).map fun lane => (flow (N.forks.take i) (aloneL N.lanes lane (pw d))).1.getD j 0).sum
theorem sum_one (m : Int) (j : Nat) : ∀ n, ((List.range n).map fun lane => if lane = j then m else 0).sum = if j < n then m else 0
  | 0 => rfl
  | n + 1 => by
    rw [List.range_succ, List.map_append, List.sum_append, sum_one m j n]
    simp only [List.sum_nil, List.sum_cons, List.map_nil, List.map_cons]
    by_cases a : j < n
    · have na : ¬ n = j := by lia
      rw [if_pos a, if_neg na, if_pos (show j < n + 1 by lia)]; lia
    · by_cases b : n = j
      · rw [if_neg a, if_pos b, if_pos (show j < n + 1 by lia)]; lia
      · rw [if_neg a, if_neg b, if_neg (show ¬ j < n + 1 by lia)]; rfl
theorem alone_getD {n lane j : Nat} (hl : lane < n) (hj : j < n) (m : Int) : (aloneL n lane m).getD j 0 = if lane = j then m else 0 := by
  unfold aloneL
  rw [getD_put (by rw [List.length_replicate]; exact hl)]
  by_cases e : lane = j
  · rw [if_pos e.symm, if_pos e]
  · rw [if_neg (fun z => e z.symm), if_neg e, List.getD_eq_getElem?_getD, List.getElem?_replicate, if_pos hj]; rfl
theorem half_getD {st : List Int × List Int} {f : Nat × Nat} (h1 : f.1 < st.1.length) (h2 : f.2 < st.1.length) (ev : (2 : Int) ∣ st.1.getD f.1 0 + st.1.getD f.2 0) (j : Nat) : (j = f.1 ∨ j = f.2 → 2 * (stepF st f).1.getD j 0 = st.1.getD f.1 0 + st.1.getD f.2 0) ∧ (¬ (j = f.1 ∨ j = f.2) → (stepF st f).1.getD j 0 = st.1.getD j 0) := by
  obtain ⟨q, hq⟩ := ev
  unfold stepF
  simp only [hq]
  rw [getD_put (by rw [List.length_set]; exact h2), getD_put h1, show (2 * q + 1) / 2 = q from by lia, show 2 * q / 2 = q from by lia]
  refine ⟨fun h => ?_, fun h => ?_⟩
  · by_cases e : j = f.2
    · rw [if_pos e]
    · rw [if_neg e, if_pos (h.resolve_right e)]
  · rw [if_neg (fun z => h (.inr z)), if_neg (fun z => h (.inl z))]
theorem col_is {N : Nt} (ok : N.Ok) {d : Nat} (hd : ∀ z ∈ layers N, z ≤ d) : ∀ i, i ≤ N.forks.length → ∀ j, j < N.lanes → col N d i j = pw d
  | 0, _, j, hj => by
    have : col N d 0 j = ((List.range N.lanes).map fun lane => if lane = j then pw d else 0).sum := map_sum_eq _ _ _ fun lane hl => alone_getD (List.mem_range.mp hl) hj _
    rw [this, sum_one, if_pos hj]
  | i + 1, hi, j, hj => by
    have il : i < N.forks.length := by lia
    have ef := List.getElem?_eq_getElem il
    have okf := ok.fk _ (List.getElem_mem il)
    have ih := col_is ok hd i (by lia)
    have len : ∀ lane, (flow (N.forks.take i) (aloneL N.lanes lane (pw d))).1.length = N.lanes := fun lane => (flow_len _ _).trans (alone_len _ _ _)
    have st := fun lane => half_getD (st := flow (N.forks.take i) (aloneL N.lanes lane (pw d))) (f := N.forks[i]) (by rw [len]; exact okf.1) (by rw [len]; exact okf.2.1) (even_at ok hd lane il) j
    have fe : ∀ lane, flow (N.forks.take (i + 1)) (aloneL N.lanes lane (pw d)) = stepF (flow (N.forks.take i) (aloneL N.lanes lane (pw d))) N.forks[i] := fun lane => flow_take ef _
    by_cases c : j = N.forks[i].1 ∨ j = N.forks[i].2
    · have e2 : 2 * col N d (i + 1) j = col N d i N.forks[i].1 + col N d i N.forks[i].2 := by
        unfold col
        rw [← map_sum_two, ← map_sum_add]
        refine map_sum_eq _ _ _ fun lane _ => ?_
        rw [fe]; exact (st lane).1 c
      rw [ih _ okf.1, ih _ okf.2.1] at e2
      lia
    · have e1 : col N d (i + 1) j = col N d i j := map_sum_eq _ _ _ fun lane _ => by rw [fe]; exact (st lane).2 c
      rw [e1]; exact ih j hj
theorem flow_low : ∀ (fs : List (Nat × Nat)) (st : List Int × List Int), (∀ x ∈ st.1, 0 ≤ x) → ∀ x ∈ (flowFrom st fs).1, 0 ≤ x
  | [], _, h => h
  | f :: fs, st, h => flow_low fs (stepF st f) fun x hx => by
    have g : ∀ i, 0 ≤ st.1.getD i 0 := fun i => by
      rw [show st.1.getD i 0 = (st.1[i]?).getD 0 from List.getD_eq_getElem?_getD]
      cases e : st.1[i]? with
      | none => exact Int.le_refl _
      | some y => exact h y (List.mem_of_getElem? e)
    have g1 := g f.1
    have g2 := g f.2
    unfold stepF at hx
    rcases List.mem_or_eq_of_mem_set hx with z | z
    · rcases List.mem_or_eq_of_mem_set z with y | y
      · exact h x y
      · rw [y]; lia
    · rw [z]; lia
end Bn
namespace Bn
open PySem L2 Own
theorem share_col {N : Nt} (ok : N.Ok) {d : Nat} (hd : ∀ z ∈ layers N, z ≤ d) {e : Nat} (he : e < N.lanes) : ((List.range N.lanes).map fun lane => (endsM N (aloneL N.lanes lane (pw d))).getD e 0).sum = pw d := by
  have el : e < N.ends.length := by rw [ends_len ok]; exact he
  have en : N.ends[e] < N.lanes := List.mem_range.mp (ok.en.mem_iff.mp (List.getElem_mem el))
  refine Eq.trans (map_sum_eq _ _ _ fun lane _ => ?_) (col_is ok hd N.forks.length (Nat.le_refl _) _ en)
  show (N.ends.map fun e => (flow N.forks (aloneL N.lanes lane (pw d))).1.getD e 0).getD e 0 = (flow (N.forks.take N.forks.length) (aloneL N.lanes lane (pw d))).1.getD N.ends[e] 0
  rw [List.take_length, List.getD_eq_getElem?_getD, List.getElem?_map, List.getElem?_eq_getElem el]; rfl
theorem share_low {N : Nt} (d lane : Nat) : ∀ x ∈ endsM N (aloneL N.lanes lane (pw d)), 0 ≤ x := fun x hx => by
  obtain ⟨e, _, rfl⟩ := List.mem_map.mp hx
  have low := flow_low N.forks (aloneL N.lanes lane (pw d), []) fun y hy => by
    rcases List.mem_or_eq_of_mem_set hy with z | z
    · rw [List.eq_of_mem_replicate z]; exact Int.le_refl _
    · rw [z]; exact Int.natCast_nonneg _
  show 0 ≤ (flow N.forks (aloneL N.lanes lane (pw d))).1.getD e 0
  rw [show ∀ (l : List Int), l.getD e 0 = (l[e]?).getD 0 from fun _ => List.getD_eq_getElem?_getD]
  cases q : (flow N.forks (aloneL N.lanes lane (pw d))).1[e]? with
  | none => exact Int.le_refl _
  | some y => exact low y (List.mem_of_getElem? q)
theorem sum_alike {x : Int} : ∀ {xs : List Int}, (∀ y ∈ xs, y = x) → xs.sum = x * xs.length
  | [], _ => by simp
  | y :: ys, h => by
    rw [List.sum_cons, sum_alike (fun z hz => h z (List.mem_cons_of_mem _ hz)), h y List.mem_cons_self, List.length_cons, Int.natCast_add, Int.mul_add]
    lia
theorem even_iff {xs : List Int} {m : Int} (hs : xs.sum = m) : (∀ i j, i < j → j < xs.length → xs.getD i 0 = xs.getD j 0) ↔ ∀ x ∈ xs, x * xs.length = m := by
  refine ⟨fun h x hx => ?_, fun h i j ij jl => ?_⟩
  · obtain ⟨k, hk⟩ := List.getElem?_of_mem hx
    have kl := (List.getElem?_eq_some_iff.mp hk).1
    have gk : xs.getD k 0 = x := by rw [List.getD_eq_getElem?_getD, hk]; rfl
    rw [← hs]
    refine (sum_alike fun y hy => ?_).symm
    obtain ⟨q, hq⟩ := List.getElem?_of_mem hy
    have ql := (List.getElem?_eq_some_iff.mp hq).1
    have gq : xs.getD q 0 = y := by rw [List.getD_eq_getElem?_getD, hq]; rfl
    rcases Nat.lt_trichotomy q k with z | z | z
    · rw [← gq, ← gk]; exact h q k z kl
    · subst z; rw [← gq, ← gk]
    · rw [← gq, ← gk]; exact (h k q z ql).symm
  · have at_ : ∀ k, k < xs.length → xs.getD k 0 ∈ xs := fun k kl => by
      rw [List.getD_eq_getElem?_getD, List.getElem?_eq_getElem kl]; exact List.getElem_mem kl
    have e := (h _ (at_ i (by lia))).trans (h _ (at_ j jl)).symm
    exact Int.eq_of_mul_eq_mul_right (by lia) e
end Bn
end
section
set_option maxHeartbeats 4000001
namespace Bn
open PySem L2 Own
end Bn
end
section
set_option maxHeartbeats 4000001
namespace L2
open PySem PySem.Spec PyProof.Rows Own
end L2
namespace Bn
open PySem L2 Own
def metN (N : Nt) (j : Int) : List Nat := (N.forks.zip (layers N)).flatMap fun p => if p.2 = j then [p.1.1, p.1.2] else []
structure Told (N : Nt) (k due : Nat) : Prop where
  ok : N.Ok
  lanes : N.lanes = 2 ^ k
  pl : plainN N = N
  dle : ∀ z ∈ layers N, 0 ≤ z ∧ z ≤ (due : Int)
  din : (due : Int) ∈ 0 :: layers N
def Full (N : Nt) (d : Nat) : Prop := ∀ j, j < d → (metN N ((j + 1 : Nat) : Int)).Perm (List.range N.lanes)
theorem plain_twice {N : Nt} (ok : N.Ok) : plainN (plainN N) = plainN N := by
  show (⟨N.lanes, plainF (plainN N), N.ends⟩ : Nt) = ⟨N.lanes, plainF N, N.ends⟩
  rw [plain_plain ok]
def toldB (N : Nt) (due many : Nat) : Bool := (layers N).all (fun z => decide (0 ≤ z ∧ z ≤ (due : Int))) && decide ((due : Int) ∈ 0 :: layers N) && decide (N.forks.length = many)
theorem told_of {N : Nt} {k due many : Nat} (ok : N.Ok) (hl : N.lanes = 2 ^ k) (h : toldB (plainN N) due many = true) : Told (plainN N) k due ∧ (plainN N).forks.length = many := by
  unfold toldB at h
  simp only [Bool.and_eq_true, List.all_eq_true, decide_eq_true_eq] at h
  exact ⟨⟨plain_ok ok, hl, plain_twice ok, h.1.1, h.1.2⟩, h.2⟩
theorem stair_told1 : ∀ k, k < 5 → toldB (plainN (stairW k)) (k * (k + 1) / 2) (2 ^ k / 2 * (k * (k + 1) / 2)) = true ∧ Full (plainN (stairW k)) (k * (k + 1) / 2) := by unfold Full; decide +kernel
theorem rounds_told1 : ∀ k, k < 5 → toldB (plainN (roundsN k)) (k * k) (2 ^ k / 2 * (k * k)) = true ∧ Full (plainN (roundsN k)) (k * k) := by unfold Full; decide +kernel
theorem merge_told1 : ∀ m, m < 4 → toldB (plainN (mergeW m)) (m + 1) (2 ^ (m + 1) / 2 * (m + 1)) = true ∧ Full (plainN (mergeW m)) (m + 1) := by unfold Full; decide +kernel
theorem tree_told1 : ∀ k, k < 5 → toldB (plainN (treeW k)) k (2 ^ k - 1) = true := by decide +kernel
theorem stair_told {k : Nat} (h : k < 5) : Told (plainN (stairW k)) k (k * (k + 1) / 2) ∧ (plainN (stairW k)).forks.length = 2 ^ k / 2 * (k * (k + 1) / 2) := told_of (stair_ok h) rfl (stair_told1 k h).1
theorem rounds_told {k : Nat} (h : k < 5) : Told (plainN (roundsN k)) k (k * k) ∧ (plainN (roundsN k)).forks.length = 2 ^ k / 2 * (k * k) := told_of (rounds_ok h) rfl (rounds_told1 k h).1
theorem merge_told {m : Nat} (h : m < 4) : Told (plainN (mergeW m)) (m + 1) (m + 1) ∧ (plainN (mergeW m)).forks.length = 2 ^ (m + 1) / 2 * (m + 1) := told_of (merge_ok h) rfl (merge_told1 m h).1
theorem tree_told {k : Nat} (h : k < 5) : Told (plainN (treeW k)) k k ∧ (plainN (treeW k)).forks.length = 2 ^ k - 1 := told_of (tree_ok h) rfl (tree_told1 k h)
end Bn
end
section
set_option maxHeartbeats 4000001
namespace L2
open PySem PySem.Spec PyProof.Rows Own
section
variable {X : Cx}
end
end L2
namespace Bn
open PySem L2 Own
end Bn
end
section
set_option maxHeartbeats 4000001
namespace Bn
open PySem L2 Own
end Bn
end
section
set_option maxHeartbeats 4000001
namespace Bn
open PySem L2 Own
end Bn
end
section
set_option maxHeartbeats 4000001
namespace L2
open PySem PySem.Spec PyProof.Rows Own
end L2
namespace Bn
open PySem L2 Own
end Bn
end
section
set_option maxHeartbeats 4000001
namespace Bn
open PySem L2 Own
end Bn
end
section
set_option maxHeartbeats 4000001
namespace Bn
open PySem L2 Own
end Bn
end
section
set_option maxHeartbeats 4000001
namespace Bn
open PySem L2 Own
end Bn
end
section
set_option maxHeartbeats 4000001
namespace L2
open PySem PySem.Spec PyProof.Rows Own
end L2
namespace Bn
open PySem L2 Own
section
variable {n s p c u : Addr}
end
end Bn
end
section
set_option maxHeartbeats 4000001
namespace L2
open PySem
end L2
namespace Bn
open PySem L2 Own
end Bn
end
section
set_option maxHeartbeats 4000001
namespace Bn
open PySem L2 Own
def stepL (f : Fk) (t : Int) (g : Nat → Int) : Nat → Int := fun l => if l = f.1 then (t + 1) / 2 else if l = f.2 then t / 2 else g l
def isAt (p : Nat × Nat → Bool) : Option (Nat × Nat) → Bool
  | some o => p o
  | none => false
def cnt (os : List (Option (Nat × Nat))) (p : Nat × Nat → Bool) : Int := (os.countP (isAt p) : Nat)
end Bn
end
section
set_option maxHeartbeats 4000001
namespace Bn
open PySem L2 Own
def fn1 (g : Nat → Int) (f : Fk) : Nat → Int := stepL f (g f.1 + g f.2) g
def fnF (fs : List Fk) (g : Nat → Int) : Nat → Int := fs.foldl fn1 g
theorem fnF_app (a b : List Fk) (g : Nat → Int) : fnF (a ++ b) g = fnF b (fnF a g) := List.foldl_append
def InR (fs : List Fk) (R : List Nat) : Prop := ∀ f ∈ fs, f.1 ∈ R ∧ f.2 ∈ R
theorem fnF_local : ∀ {fs : List Fk} {R : List Nat} {g h : Nat → Int}, InR fs R → (∀ l ∈ R, g l = h l) → ∀ l ∈ R, fnF fs g l = fnF fs h l
  | [], R, g, h, _, e, l, hl => e l hl
  | f :: fs, R, g, h, i, e, l, hl => by
    obtain ⟨h1, h2⟩ := i f List.mem_cons_self
    refine fnF_local (fs := fs) (g := fn1 g f) (h := fn1 h f) (fun x hx => i x (List.mem_cons_of_mem _ hx)) (fun x hx => ?_) l hl
    unfold fn1 stepL
    rw [e _ h1, e _ h2, e _ hx]
theorem flow_fn {n : Nat} : ∀ (fs : List Fk) (cs : List Int), cs.length = n → (∀ f ∈ fs, f.1 < n ∧ f.2 < n ∧ f.1 ≠ f.2) → ∀ l, l < n → (flow fs cs).1.getD l 0 = fnF fs (fun l => cs.getD l 0) l := by
  intro fs cs hn ok
  have key : ∀ j, j ≤ fs.length → ∀ l, l < n → (flow (fs.take j) cs).1.getD l 0 = fnF (fs.take j) (fun l => cs.getD l 0) l := fun j => by
    induction j with
    | zero => intro _ l _; rfl
    | succ j ih =>
      intro hj l hl
      have i1 := ih (by lia)
      have jl : j < fs.length := by lia
      have eg : fs[j]? = some fs[j] := List.getElem?_eq_getElem jl
      obtain ⟨o1, o2, o3⟩ := ok _ (List.getElem_mem jl)
      have fl : (flow (fs.take j) cs).1.length = n := by rw [flow_len, hn]
      rw [flow_take eg cs, List.take_succ_eq_append_getElem jl, fnF_app]
      show (stepF (flow (fs.take j) cs) fs[j]).1.getD l 0 = fn1 (fnF (fs.take j) fun l => cs.getD l 0) fs[j] l
      have e1 := i1 _ o1
      have e2 := i1 _ o2
      have el := i1 l hl
      generalize flow (fs.take j) cs = st at *
      generalize fnF (fs.take j) (fun l => cs.getD l 0) = G at *
      unfold stepF fn1 stepL
      show ((st.1.set fs[j].1 ((st.1.getD fs[j].1 0 + st.1.getD fs[j].2 0 + 1) / 2)).set fs[j].2 ((st.1.getD fs[j].1 0 + st.1.getD fs[j].2 0) / 2)).getD l 0 = _
      rw [e1, e2, List.getD_eq_getElem?_getD, List.getElem?_set, List.getElem?_set, List.length_set]
      by_cases a : l = fs[j].1
      · rw [if_pos a, if_neg (fun z => o3 (a.symm.trans z.symm)), if_pos a.symm, if_pos (by lia)]; rfl
      · rw [if_neg a]
        by_cases b : l = fs[j].2
        · rw [if_pos b, if_pos b.symm, if_pos (by lia)]; rfl
        · rw [if_neg b, if_neg (fun z => b z.symm), if_neg (fun z => a z.symm), ← List.getD_eq_getElem?_getD]; exact el
  intro l hl
  have := key fs.length (Nat.le_refl _) l hl
  rwa [List.take_length] at this
end Bn
end
section
set_option maxHeartbeats 4000001
namespace Bn
open PySem L2 Own
theorem lay_called {n : Nat} {p : List Nat} (hp : p.Perm (List.range n)) : ∀ (fs : List Fk), (∀ f ∈ fs, f.1 < n ∧ f.2 < n ∧ f.1 ≠ f.2) → ∀ i, i ≤ fs.length →
    (lay n ((fs.map (callF p)).take i)).2 = (lay n (fs.take i)).2 ∧ ∀ l, l < n → (lay n ((fs.map (callF p)).take i)).1.getD (nmq p l) 0 = (lay n (fs.take i)).1.getD l 0 := by
  intro fs hf i
  have pl : p.length = n := perm_len hp
  induction i with
  | zero =>
    intro _
    refine ⟨rfl, fun l hl => ?_⟩
    show (List.replicate n (0 : Int)).getD (nmq p l) 0 = (List.replicate n (0 : Int)).getD l 0
    rw [List.getD_eq_getElem?_getD, List.getElem?_replicate, List.getD_eq_getElem?_getD, List.getElem?_replicate]
    split <;> rfl
  | succ i ih =>
    intro hi
    obtain ⟨i1, i2⟩ := ih (by lia)
    have ef : fs[i]? = some fs[i] := List.getElem?_eq_getElem (by lia)
    have eg : (fs.map (callF p))[i]? = some (callF p fs[i]) := by rw [List.getElem?_map, ef]; rfl
    obtain ⟨f1, f2, f3⟩ := hf _ (List.getElem_mem (show i < fs.length by lia))
    have la := (lay_lens (n := n) i fs (by lia)).1
    have lb := (lay_lens (n := n) i (fs.map (callF p)) (by rw [List.length_map]; lia)).1
    rw [lay_take ef, lay_take eg]
    generalize lay n (fs.take i) = x at *
    generalize lay n ((fs.map (callF p)).take i) = y at *
    have e1 := i2 _ f1
    have e2 := i2 _ f2
    have c1 : (callF p fs[i]).1 = nmq p fs[i].1 := rfl
    have c2 : (callF p fs[i]).2 = nmq p fs[i].2 := rfl
    unfold layStep
    rw [c1, c2, e1, e2, i1]
    refine ⟨rfl, fun l hl => ?_⟩
    generalize 1 + big (x.1.getD fs[i].1 0) (x.1.getD fs[i].2 0) = v
    have n1 := nmq_lt hp f1
    have n2 := nmq_lt hp f2
    have inj : ∀ a b, a < n → b < n → (nmq p a = nmq p b ↔ a = b) := fun a b ha hb => ⟨nmq_inj (perm_nodup hp) (by lia) (by lia), fun e => by rw [e]⟩
    rw [List.getD_eq_getElem?_getD, List.getElem?_set, List.getElem?_set, List.length_set, List.getD_eq_getElem?_getD, List.getElem?_set, List.getElem?_set, List.length_set, lb, la]
    have q1 := inj _ _ f1 hl
    have q2 := inj _ _ f2 hl
    by_cases z2 : fs[i].2 = l
    · rw [if_pos (q2.mpr z2), if_pos z2, if_pos n2, if_pos f2]
    · rw [if_neg (fun e => z2 (q2.mp e)), if_neg z2]
      by_cases z1 : fs[i].1 = l
      · rw [if_pos (q1.mpr z1), if_pos z1, if_pos n1, if_pos f1]
      · rw [if_neg (fun e => z1 (q1.mp e)), if_neg z1, ← List.getD_eq_getElem?_getD, ← List.getD_eq_getElem?_getD]; exact i2 l hl
theorem layers_called {N : Nt} (ok : N.Ok) {p : List Nat} (hp : p.Perm (List.range N.lanes)) : layers (renamedN N p) = layers N := by
  have := (lay_called hp N.forks ok.fk N.forks.length (Nat.le_refl _)).1
  rw [List.take_length, show N.forks.length = (N.forks.map (callF p)).length by rw [List.length_map], List.take_length] at this
  exact this
end Bn
end
section
set_option maxHeartbeats 4000001
namespace Bn
open PySem L2 Own
end Bn
end
section
set_option maxHeartbeats 4000001
namespace Bn
open PySem L2 Own
end Bn
end
section
set_option maxHeartbeats 4000001
namespace Bn
open PySem L2 Own
end Bn
end
section
set_option maxHeartbeats 4000001
namespace Bn
open PySem L2 Own
end Bn
end
section
set_option maxHeartbeats 4000001
namespace Bn
open PySem L2 Own
theorem ends_fn {N : Nt} (ok : N.Ok) (g : Nat → Int) : endsM N ((List.range N.lanes).map g) = N.ends.map (fnF N.forks g) := by
  unfold endsM
  refine List.map_congr_left fun l hl => ?_
  have l0 : l < N.lanes := List.mem_range.mp (ok.en.mem_iff.mp hl)
  have i : InR N.forks (List.range N.lanes) := fun f hf => ⟨List.mem_range.mpr (ok.fk f hf).1, List.mem_range.mpr (ok.fk f hf).2.1⟩
  rw [flow_fn (n := N.lanes) N.forks _ (by rw [List.length_map, List.length_range]) ok.fk l l0]
  refine fnF_local i (fun x hx => ?_) l (List.mem_range.mpr l0)
  have := List.mem_range.mp hx
  rw [List.getD_eq_getElem?_getD, List.getElem?_map, List.getElem?_range this]; rfl
end Bn
end
section
set_option maxHeartbeats 4000001
namespace Bn
open PySem L2 Own
end Bn
end
section
set_option maxHeartbeats 4000001
namespace Bn
open PySem L2 Own
end Bn
end
section
set_option maxHeartbeats 4000001
namespace Bn
open PySem L2 Own
theorem cs_fn {n : Nat} {cs : List Int} (h : cs.length = n) : (List.range n).map (fun l => cs.getD l 0) = cs := by
  refine List.ext_getElem (by rw [List.length_map, List.length_range, h]) fun i h1 h2 => ?_
  rw [List.getElem_map, List.getElem_range, List.getD_eq_getElem?_getD, List.getElem?_eq_getElem h2]; rfl
end Bn
end
section
set_option maxHeartbeats 4000001
namespace Bn
open PySem L2 Own
theorem fnF_ren {e : Nat → Nat} : ∀ {fs : List Fk} {R : List Nat} {h : Nat → Int}, InR fs R → (∀ a ∈ R, ∀ b ∈ R, e a = e b → a = b) → ∀ l ∈ R, fnF (fs.map fun f => (e f.1, e f.2)) h (e l) = fnF fs (fun x => h (e x)) l
  | [], _, _, _, _, _, _ => rfl
  | f :: fs, R, h, i, inj, l, hl => by
    have i2 : InR fs R := fun g hg => i g (List.mem_cons_of_mem _ hg)
    obtain ⟨f1, f2⟩ := i f List.mem_cons_self
    show fnF (fs.map fun f => (e f.1, e f.2)) (fn1 h (e f.1, e f.2)) (e l) = fnF fs (fn1 (fun x => h (e x)) f) l
    rw [fnF_ren i2 inj l hl]
    refine fnF_local i2 (fun x hx => ?_) l hl
    unfold fn1 stepL
    show (if e x = e f.1 then _ else if e x = e f.2 then _ else _) = if x = f.1 then _ else if x = f.2 then _ else _
    by_cases c1 : x = f.1
    · rw [if_pos c1, if_pos (by rw [c1])]
    · rw [if_neg c1, if_neg fun z => c1 (inj _ hx _ f1 z)]
      by_cases c2 : x = f.2
      · rw [if_pos c2, if_pos (by rw [c2])]
      · rw [if_neg c2, if_neg fun z => c2 (inj _ hx _ f2 z)]
theorem in_range {N : Nt} (ok : N.Ok) : InR N.forks (List.range N.lanes) := fun f hf => ⟨List.mem_range.mpr (ok.fk f hf).1, List.mem_range.mpr (ok.fk f hf).2.1⟩
theorem endl_lt {N : Nt} (ok : N.Ok) {l : Nat} (h : l ∈ N.ends) : l < N.lanes := List.mem_range.mp (ok.en.mem_iff.mp h)
theorem ends_g {N : Nt} (ok : N.Ok) {cs : List Int} (cl : cs.length = N.lanes) : endsM N cs = N.ends.map (fnF N.forks fun l => cs.getD l 0) := by
  have := ends_fn ok fun l => cs.getD l 0
  rwa [cs_fn cl] at this
theorem ends_renamed {a : Nt} (oka : a.Ok) {p : List Nat} (hp : p.Perm (List.range a.lanes)) {cs xs : List Int} (cl : cs.length = a.lanes) (xl : xs.length = a.lanes) (h : ∀ i, i < a.lanes → xs.getD (nmq p i) 0 = cs.getD i 0) : endsM (renamedN a p) xs = endsM a cs := by
  rw [ends_g (renamed_ok oka hp) xl, ends_g oka cl]
  show (a.ends.map (nmq p)).map (fnF (a.forks.map (callF p)) _) = _
  rw [List.map_map]
  refine List.map_congr_left fun x hx => ?_
  have xl := endl_lt oka hx
  refine (fnF_ren (e := nmq p) (in_range oka) (fun u hu v hv z => ?_) x (List.mem_range.mpr xl)).trans ?_
  · have lu := List.mem_range.mp hu
    have lv := List.mem_range.mp hv
    exact nmq_inj (perm_nodup hp) (by rw [perm_len hp]; exact lu) (by rw [perm_len hp]; exact lv) z
  · exact fnF_local (in_range oka) (fun u hu => h u (List.mem_range.mp hu)) x (List.mem_range.mpr xl)
end Bn
end
section
set_option maxHeartbeats 4000001
namespace Bn
open PySem L2 Own
theorem share_renamed {N : Nt} (ok : N.Ok) {p : List Nat} (hp : p.Perm (List.range N.lanes)) {lane : Nat} (hl : lane < N.lanes) (m : Int) : endsM (renamedN N p) (aloneL N.lanes (nmq p lane) m) = endsM N (aloneL N.lanes lane m) := by
  have pl : p.length = N.lanes := by rw [hp.length_eq, List.length_range]
  have inj : ∀ i j, i < N.lanes → j < N.lanes → nmq p i = nmq p j → i = j := fun i j hi hj e => by
    have nd : p.Nodup := hp.nodup_iff.mpr List.nodup_range
    refine (List.getElem?_inj (by lia) nd).mp ?_
    have gi : p[i]? = some (nmq p i) := by unfold nmq; rw [List.getD_eq_getElem?_getD, List.getElem?_eq_getElem (by lia)]; rfl
    have gj : p[j]? = some (nmq p j) := by unfold nmq; rw [List.getD_eq_getElem?_getD, List.getElem?_eq_getElem (by lia)]; rfl
    rw [gi, gj, e]
  have low : ∀ i, i < N.lanes → nmq p i < N.lanes := fun i hi => by
    have : nmq p i ∈ p := by unfold nmq; rw [List.getD_eq_getElem?_getD, List.getElem?_eq_getElem (by lia)]; exact List.getElem_mem _
    exact List.mem_range.mp (hp.mem_iff.mp this)
  refine ends_renamed ok hp (alone_len _ _ _) (alone_len _ _ _) fun i hi => ?_
  rw [alone_getD (low lane hl) (low i hi), alone_getD hl hi]
  by_cases e : lane = i
  · subst e; rw [if_pos rfl, if_pos rfl]
  · rw [if_neg e, if_neg (fun z => e (inj _ _ hl hi z))]
end Bn
end
section
set_option maxHeartbeats 4000001
namespace L2
open PySem
abbrev rSumB (K : PySem.W.Frag) (b : Bool) : List V → Hp → VK → Prop := fun vs H Q => ∃ a ns, vs = [.ref a] ∧ SqB b K H a (List.map V.int ns) ∧ Q (.int ns.sum) H
abbrev rMinB (K : PySem.W.Frag) (b : Bool) : List V → Hp → VK → Prop := fun vs H Q => ∃ a ns, vs = [.ref a] ∧ SqB b K H a (List.map V.int ns) ∧ 0 < ns.length ∧ ∀ M, M ∈ ns → (∀ x ∈ ns, M ≤ x) → Q (.int M) H
end L2
end
section
set_option maxHeartbeats 4000001
namespace K33
open PySem L2 Own Bn
abbrev sRight : Stmt := top 32
def ShAt (H : Hp) (p : Addr) (ss : List V) (N : Nt) (d : Nat) : Prop := H p = some (.tup ss) ∧ ss.length = N.lanes ∧ ∀ lane, lane < N.lanes → ∃ a, ss[lane]? = some (.ref a) ∧ H a = some (.tup ((endsM N (aloneL N.lanes lane (pw d))).map V.int))
theorem ShAt.keep {H H' : Hp} {p : Addr} {ss : List V} {N : Nt} {d : Nat} (h : ShAt H p ss N d) (s : Same H H') : ShAt H' p ss N d :=
  ⟨s _ _ h.1, h.2.1, fun lane hl => let ⟨a, e, ha⟩ := h.2.2 lane hl; ⟨a, e, s _ _ ha⟩⟩
def spRight : Sp := fun vs H Q _ => ∃ r fr er ps N p d ss, vs = [.ref r, .ref p] ∧ Nt.Ok N ∧ NetAt H r fr er ps N ∧ IsTop N d ∧ ShAt H p ss N d ∧ ∀ H', Same H H' → Q (.bl true) H'
theorem trues (n : Nat) : ((List.replicate n true)).all id = true := by
  rw [List.all_eq_true]; intro x hx; rw [(List.mem_replicate.mp hx).2]; rfl
theorem all_is (xs : List Int) (m n : Int) : (xs.map fun x => decide (x * n = m)).all id = true ↔ ∀ x ∈ xs, x * n = m := by
  rw [List.all_eq_true]
  constructor
  · intro h x hx; exact of_decide_eq_true (h _ (List.mem_map.mpr ⟨x, hx, rfl⟩))
  · intro h b hb
    obtain ⟨x, hx, rfl⟩ := List.mem_map.mp hb
    exact decide_eq_true (h x hx)
theorem dec_int (a b : Int) : decide (V.int a = V.int b) = decide (a = b) := decide_eq_decide.mpr ⟨fun h => V.int.inj h, fun h => by rw [h]⟩
section
variable {P : Program} {w : World} {K : PySem.W.Frag} {mg : Str → Option Value} {base : Heap}
theorem scRi : FnScope ["_law_net_here", "_law_told", "_law_many", "_law_turn", "_law_lane", "_law_even"] ["_law_net_here", "_law_told"] (defScope sRight) := ⟨rfl, rfl, rfl, by decide +kernel, rfl, by decide +kernel, by decide +kernel⟩
theorem ok_right {f fD fE fU : Addr} {fd dD dE dU : FuncData} (F : Fun K "_law_right" "_law_right" sRight f fd) (G : Mgs mg) (UD : Use P w K mg base "depth" ["net"] 2 spDepth fD dD) (UE : Use P w K mg base "is_even" ["net", "some"] 5 spIsEven fE dE) (UU : Use P w K mg base "uneven" ["net", "some"] 4 spUneven fU dU) : FnOk P w K mg base CX0 6 f fd ["_law_net_here", "_law_told"] spRight := by
  refine F.ok scRi (fun vs H Q E h => ?_) (fun cdv A outer s H vs Q E hr h => ?_)
  · obtain ⟨r, fr, er, ps, N, p, d, ss, rfl, _⟩ := h
    rfl
  obtain ⟨r, fr, er, ps, N, p, d, ss, rfl, ok, na, tp, sh, k⟩ := h
  have hr2 : Room 2 _ := hr.mono (by decide)
  have hr4 : Room 4 _ := hr.mono (by decide)
  refine ⟨_, (@pss_cons _ _ _ _ _ (@ps_set _ _ 2 _ _ _ _ scRi.nd rfl (Or.inr rfl) pe_int (by rfl) (by first | exact .inl rfl | exact .inr rfl | assumption)) (@pss_cons _ _ _ _ _ (@ps_for _ _ _ _ _ _ _ _ PassesOwn.never rfl (@pi_range1 _ _ _ _ _ _ rfl G.range (@pa_cons _ _ _ _ _ (@pe_call _ _ _ _ _ _ _ _ _ _ _ _ _ _ _ _ UD.ok hr2 (by rfl) UD.m UD.kp UD.b .nil pass0 (@pa_cons _ _ _ _ _ (@pv _ 0 _ _ (by rfl) (by first | exact Or.inl rfl | exact Or.inr (Or.inl rfl) | exact Or.inr (Or.inr rfl)) (by decide) (by decide)) pa_nil (by rfl)) (by decide) (by rfl) (by rfl)) pa_nil (by rfl)) (by rfl)) (@pg_name _ _ 3 _ scRi.nd rfl (Or.inl rfl) (by first | exact .inl rfl | exact .inr rfl | assumption)) (@pss_one _ _ _ (@ps_set _ _ 2 _ _ _ _ scRi.nd rfl (Or.inr rfl) (@pe_op _ _ _ _ _ _ _ _ op_mul pe_int (@pv _ 2 _ _ (by rfl) (by first | exact Or.inl rfl | exact Or.inr (Or.inl rfl) | exact Or.inr (Or.inr rfl)) (by decide) (by decide))) (by rfl) (by first | exact .inl rfl | exact .inr rfl | assumption))) (by intro _; rfl)) (@pss_cons _ _ _ _ _ (@ps_if _ _ _ _ _ _ _ _ (@pt_not _ _ _ _ (@pt_val _ _ _ (@pe_callB _ _ _ _ _ _ _ _ _ (call_allB rfl true) (by rfl) G.all (by rfl) (@pa_cons _ _ _ _ _ (@pe_lc _ _ _ _ none _ _ _ _ _ _ ["_law_row", "_law_many"] [none, some 2] rfl (@pi_tup _ _ _ _ (@pv _ 1 _ _ (by rfl) (by first | exact Or.inl rfl | exact Or.inr (Or.inl rfl) | exact Or.inr (Or.inr rfl)) (by decide) (by decide))) (CapOk.of (by kernel_rfl)) (fun _ _ _ _ _ => (@pg_name _ _ 0 _ (show (["_law_row", "_law_many"] : List Str).Nodup from by decide +kernel) rfl (Or.inl rfl) (Or.inr rfl))) (fun _ _ _ _ _ => pt_none) (fun _ _ _ _ _ => (@pe_and _ _ _ _ _ _ _ (@pe_cmpR _ _ _ _ _ _ _ _ op_eq (@pe_callB _ _ _ _ _ _ _ _ (rSumB K false) (call_sumB rfl false) (by rfl) G.sum (by rfl) (@pa_cons _ _ _ _ _ (@pv _ 0 _ _ (by rfl) (by first | exact Or.inl rfl | exact Or.inr (Or.inl rfl) | exact Or.inr (Or.inr rfl)) (by decide) (by decide)) pa_nil (by rfl)) (by decide) (by decide) (by rfl) (by rfl)) (@pv _ 1 _ _ (by rfl) (by first | exact Or.inl rfl | exact Or.inr (Or.inl rfl) | exact Or.inr (Or.inr rfl)) (by decide) (by decide)) (nomark _)) (@pe_one _ _ _ _ _ (@pe_cmpR _ _ _ _ _ _ _ _ op_ge (@pe_callB _ _ _ _ _ _ _ _ (rMinB K false) (call_minB rfl false) (by rfl) G.min (by rfl) (@pa_cons _ _ _ _ _ (@pv _ 0 _ _ (by rfl) (by first | exact Or.inl rfl | exact Or.inr (Or.inl rfl) | exact Or.inr (Or.inr rfl)) (by decide) (by decide)) pa_nil (by rfl)) (by decide) (by decide) (by rfl) (by rfl)) pe_int (nomark _))))) (by intro _; rfl)) pa_nil (by rfl)) (by decide) (by decide) (by rfl) (by rfl)) (by intro _; rfl))) (@pss_one _ _ _ (@ps_ret _ _ _ _ pe_bl)) pss_nil) (@pss_cons _ _ _ _ _ (@ps_if _ _ _ _ _ _ _ _ (@pt_not _ _ _ _ (@pt_val _ _ _ (@pe_callB _ _ _ _ _ _ _ _ _ (call_allB rfl true) (by rfl) G.all (by rfl) (@pa_cons _ _ _ _ _ (@pe_lcC _ _ _ _ none _ _ _ _ _ _ ["_law_end", "_law_many", "_law_told"] "_law_end" [none, some 2, some 1] rfl (@pi_range1 _ _ _ _ _ _ rfl G.range (@pa_cons _ _ _ _ _ (@pe_ix _ _ _ _ _ _ _ ix_tup (@pv _ 0 _ _ (by rfl) (by first | exact Or.inl rfl | exact Or.inr (Or.inl rfl) | exact Or.inr (Or.inr rfl)) (by decide) (by decide)) pe_int (fun _ _ => rfl)) pa_nil (by rfl)) (by rfl)) (CapOkC.of (by kernel_rfl)) (fun _ _ _ _ _ _ => (@pg_name _ _ 0 _ (show (["_law_end", "_law_many", "_law_told"] : List Str).Nodup from by decide +kernel) rfl (Or.inr rfl) (Or.inl rfl))) (fun _ _ _ _ _ _ => pt_none) (fun _ _ _ _ _ _ => (@pe_cmpR _ _ _ _ _ _ _ _ op_eq (@pe_callB _ _ _ _ _ _ _ _ (rSumB K true) (call_sumB rfl true) (by rfl) G.sum (by rfl) (@pa_cons _ _ _ _ _ (@pe_lc _ _ _ _ none _ _ (iTup K (tVar 2)) _ _ _ ["_law_row", "_law_end"] [none, some 0] rfl (@pi_tup _ _ _ _ (@pv _ 2 _ _ (by rfl) (by first | exact Or.inl rfl | exact Or.inr (Or.inl rfl) | exact Or.inr (Or.inr rfl)) (by decide) (by decide))) (CapOk.of (by kernel_rfl)) (fun _ _ _ _ _ => (@pg_name _ _ 0 _ (show (["_law_row", "_law_end"] : List Str).Nodup from by decide +kernel) rfl (Or.inl rfl) (Or.inr rfl))) (fun _ _ _ _ _ => pt_none) (fun _ _ _ _ _ => (@pe_ix _ _ _ _ _ _ (rIxT K) ix_tup (@pv _ 0 _ _ (by rfl) (by first | exact Or.inl rfl | exact Or.inr (Or.inl rfl) | exact Or.inr (Or.inr rfl)) (by decide) (by decide)) (@pv _ 1 _ _ (by rfl) (by first | exact Or.inl rfl | exact Or.inr (Or.inl rfl) | exact Or.inr (Or.inr rfl)) (by decide) (by decide)) (fun _ _ => rfl))) (by intro _; rfl)) pa_nil (by rfl)) (by decide) (by decide) (by rfl) (by rfl)) (@pv _ 1 _ _ (by rfl) (by first | exact Or.inl rfl | exact Or.inr (Or.inl rfl) | exact Or.inr (Or.inr rfl)) (by decide) (by decide)) (nomark _))) (by intro _; rfl)) pa_nil (by rfl)) (by decide) (by decide) (by rfl) (by rfl)) (by intro _; rfl))) (@pss_one _ _ _ (@ps_ret _ _ _ _ pe_bl)) pss_nil) (@pss_cons _ _ _ _ _ (@ps_for _ _ _ _ _ _ _ _ PassesOwn.never rfl (@pi_range1 _ _ _ _ _ _ rfl G.range (@pa_cons _ _ _ _ _ (@pe_ix _ _ _ _ _ _ _ ix_tup (@pv _ 0 _ _ (by rfl) (by first | exact Or.inl rfl | exact Or.inr (Or.inl rfl) | exact Or.inr (Or.inr rfl)) (by decide) (by decide)) pe_int (fun _ _ => rfl)) pa_nil (by rfl)) (by rfl)) (@pg_name _ _ 4 _ scRi.nd rfl (Or.inl rfl) (by first | exact .inl rfl | exact .inr rfl | assumption)) (@pss_cons _ _ _ _ _ (@ps_set _ _ 5 _ _ _ _ scRi.nd rfl (Or.inl rfl) (@pe_call _ _ _ _ _ _ _ _ _ _ _ _ _ _ _ _ UE.ok hr (by rfl) UE.m UE.kp UE.b .nil pass0 (@pa_cons _ _ _ _ _ (@pv _ 0 _ _ (by rfl) (by first | exact Or.inl rfl | exact Or.inr (Or.inl rfl) | exact Or.inr (Or.inr rfl)) (by decide) (by decide)) (@pa_cons _ _ _ _ _ (@pe_tup _ _ _ _ _ (@pa_cons _ _ _ _ _ (@pv _ 4 _ _ (by rfl) (by first | exact Or.inl rfl | exact Or.inr (Or.inl rfl) | exact Or.inr (Or.inr rfl)) (by decide) (by decide)) pa_nil (by rfl))) pa_nil (by rfl)) (by rfl)) (by decide) (by rfl) (by rfl)) (by rfl) (by first | exact .inl rfl | exact .inr rfl | assumption)) (@pss_one _ _ _ (@ps_if _ _ _ _ _ _ _ _ (@pw_or _ _ _ _ _ _ _ (@pt_cmpR _ _ _ _ _ _ _ _ op_ne (@pv _ 5 _ _ (by rfl) (by first | exact Or.inl rfl | exact Or.inr (Or.inl rfl) | exact Or.inr (Or.inr rfl)) (by decide) (by decide)) (@pe_cmpR _ _ _ _ _ _ _ _ op_isN (@pe_call _ _ _ _ _ _ _ _ _ _ _ _ _ _ _ _ UU.ok hr4 (by rfl) UU.m UU.kp UU.b .nil pass0 (@pa_cons _ _ _ _ _ (@pv _ 0 _ _ (by rfl) (by first | exact Or.inl rfl | exact Or.inr (Or.inl rfl) | exact Or.inr (Or.inr rfl)) (by decide) (by decide)) (@pa_cons _ _ _ _ _ (@pe_tup _ _ _ _ _ (@pa_cons _ _ _ _ _ (@pv _ 4 _ _ (by rfl) (by first | exact Or.inl rfl | exact Or.inr (Or.inl rfl) | exact Or.inr (Or.inr rfl)) (by decide) (by decide)) pa_nil (by rfl))) pa_nil (by rfl)) (by rfl)) (by decide) (by rfl) (by rfl)) pe_non (by rfl)) (nomark _)) (@pw_or1 _ _ _ _ (@pt_cmpR _ _ _ _ _ _ _ _ op_ne (@pv _ 5 _ _ (by rfl) (by first | exact Or.inl rfl | exact Or.inr (Or.inl rfl) | exact Or.inr (Or.inr rfl)) (by decide) (by decide)) (@pe_callB _ _ _ _ _ _ _ _ _ (call_allB rfl true) (by rfl) G.all (by rfl) (@pa_cons _ _ _ _ _ (@pe_lc _ _ _ _ none _ _ _ _ _ _ ["_law_one", "_law_many", "_law_net_here"] [none, some 2, some 0] rfl (@pi_tup _ _ _ _ (@pe_ix _ _ _ _ _ _ _ ix_tup (@pv _ 1 _ _ (by rfl) (by first | exact Or.inl rfl | exact Or.inr (Or.inl rfl) | exact Or.inr (Or.inr rfl)) (by decide) (by decide)) (@pv _ 4 _ _ (by rfl) (by first | exact Or.inl rfl | exact Or.inr (Or.inl rfl) | exact Or.inr (Or.inr rfl)) (by decide) (by decide)) (fun _ _ => rfl))) (CapOk.of (by kernel_rfl)) (fun _ _ _ _ _ => (@pg_name _ _ 0 _ (show (["_law_one", "_law_many", "_law_net_here"] : List Str).Nodup from by decide +kernel) rfl (Or.inl rfl) (Or.inr rfl))) (fun _ _ _ _ _ => pt_none) (fun _ _ _ _ _ => (@pe_cmpR _ _ _ _ _ _ _ _ op_eq (@pe_op _ _ _ _ _ _ _ _ op_mul (@pv _ 0 _ _ (by rfl) (by first | exact Or.inl rfl | exact Or.inr (Or.inl rfl) | exact Or.inr (Or.inr rfl)) (by decide) (by decide)) (@pe_ix _ _ _ _ _ _ (rIxT K) ix_tup (@pv _ 2 _ _ (by rfl) (by first | exact Or.inl rfl | exact Or.inr (Or.inl rfl) | exact Or.inr (Or.inr rfl)) (by decide) (by decide)) pe_int (fun _ _ => rfl))) (@pv _ 1 _ _ (by rfl) (by first | exact Or.inl rfl | exact Or.inr (Or.inl rfl) | exact Or.inr (Or.inr rfl)) (by decide) (by decide)) (nomark _))) (by intro _; rfl)) pa_nil (by rfl)) (by decide) (by decide) (by rfl) (by rfl)) (nomark _)))).pt (@pss_one _ _ _ (@ps_ret _ _ _ _ pe_bl)) pss_nil))) (by intro _; rfl)) (@pss_one _ _ _ (@ps_ret _ _ _ _ pe_bl))))))), ?_⟩
  have l16 := ok.l16
  have l1 := ok.l1
  have d128 := top_le ok tp
  refine ⟨_, rfl, r, fr, er, ps, N, rfl, ok, na, fun M H1 s1 hM hz _ _ => ?_⟩
  obtain ⟨d', rfl, tp'⟩ := top_of ok hz hM
  obtain rfl := top_one tp tp'
  refine ⟨d, rfl, by lia, by lia, for_range (lo := 0) (n := ((d : Nat) : Int).toNat) (fun i σ H2 => H2 = H1 ∧ ∃ v3, σ = [some (.ref r), some (.ref p), some (.int (pw i)), v3, none, none]) ⟨rfl, _, rfl⟩ ?_ ?_⟩
  · rintro i σ H2 hi ⟨rfl, v3, rfl⟩
    refine ⟨_, rfl, _, _, rfl, rfl, .inl ⟨by decide, by decide⟩, rfl, some (.int (0 + (i : Nat))), ?_⟩
    rw [← show 2 * pw i = pw (i + 1) from by rw [pw_succ]]; rfl
  rintro σ H2 ⟨rfl, v3, rfl⟩
  rw [show ((d : Nat) : Int).toNat = d from by lia]
  have sh1 := sh.keep s1
  have xl : ∀ lane, (endsM N (aloneL N.lanes lane (pw d))).length = N.lanes := fun lane => by unfold endsM; rw [List.length_map]; exact ends_len ok
  refine ⟨_, rfl, p, rfl, ⟨_, SqT.of sh1.1⟩, fun l hl => ?_⟩
  refine lc_tup (K := K) (a := p) (xs := ss) (fun i acc σ H3 => (∃ v, σ = [v, some (.int (pw d))]) ∧ Same H2 H3 ∧ H3 l = some (.lst acc) ∧ acc = (List.replicate i true).map V.bl) ⟨⟨_, rfl⟩, same_new hl _, upd_same, rfl⟩ (fun i acc σ H3 q => ⟨q.2.2.1, SqT.of (q.2.1 _ _ sh1.1)⟩) ?_ ?_
  · rintro i x acc σ H3 hx ⟨⟨v, rfl⟩, s3, h3, rfl⟩
    have il : i < N.lanes := by have := (List.getElem?_eq_some_iff.mp hx).1; rw [sh1.2.1] at this; exact this
    obtain ⟨a, ea, ha⟩ := (sh1.keep s3).2.2 i il
    rw [ea] at hx
    obtain rfl := Option.some.inj hx
    refine ⟨_, rfl, a, _, rfl, SqT.of ha, _, rfl, rfl, _, rfl, ?_⟩
    rw [dec_int, decide_eq_true (share_sum ok il (pw d))]
    refine iteT ⟨_, rfl, a, _, rfl, SqT.of ha, by rw [xl]; lia, fun M hM _ => ⟨_, _, rfl, rfl, ?_⟩⟩
    dsimp only
    rw [decide_eq_true (share_low d i M hM)]
    refine ⟨h3, ?_, nx (by rw [sh1.2.1]; exact il) ⟨⟨_, rfl⟩, fun b o e => ?_, upd_same, ?_⟩⟩
    · rw [List.length_map, List.length_replicate]; exact Nat.lt_of_lt_of_le (show i < 1000 by lia) (by decide)
    · rw [upd_ne (ne_of_none e hl)]; exact s3 b o e
    · rw [List.replicate_succ', List.map_append]; rfl
  rintro acc σ H3 ⟨⟨v, rfl⟩, s3, h3, rfl⟩
  refine ⟨l, _, rfl, SqL.of h3, _, rfl, ?_⟩
  rw [trues]
  refine iteF ?_
  have sh3 := sh1.keep s3
  have na3 := na.tups (Tups.of (s1.trans s3))
  refine ⟨_, rfl, r, _, _, _, rfl, rfl, SqT.of na3.net, rfl, N.lanes, rfl, by lia, by lia, fun l2 hl2 => ?_⟩
  refine lc_range (lo := 0) (n := ((N.lanes : Nat) : Int).toNat) (fun i acc σ H4 => (∃ v, σ = [v, some (.int (pw d)), some (.ref p)]) ∧ Same H3 H4 ∧ H4 l2 = some (.lst acc) ∧ acc = (List.replicate i true).map V.bl) ⟨⟨_, rfl⟩, same_new hl2 _, upd_same, rfl⟩ (fun i acc σ H4 q => q.2.2.1) ?_ ?_
  · rintro i acc σ H4 hi ⟨⟨v, rfl⟩, s4, h4, rfl⟩
    have il : i < N.lanes := by lia
    have sh4 := sh3.keep s4
    rw [Int.zero_add]
    refine ⟨_, rfl, p, rfl, ⟨_, SqT.of sh4.1⟩, fun l3 hl3 => ?_⟩
    refine lc_tup (K := K) (a := p) (xs := ss) (fun j acc σ H5 => (∃ v, σ = [v, some (.int i)]) ∧ Same H4 H5 ∧ H5 l3 = some (.lst acc) ∧ acc = ((List.range j).map fun lane => (endsM N (aloneL N.lanes lane (pw d))).getD i 0).map V.int) ⟨⟨_, rfl⟩, same_new hl3 _, upd_same, rfl⟩ (fun j acc σ H5 q => ⟨q.2.2.1, SqT.of (q.2.1 _ _ sh4.1)⟩) ?_ ?_
    · rintro j x acc σ H5 hx ⟨⟨v, rfl⟩, s5, h5, rfl⟩
      have jl : j < N.lanes := by have := (List.getElem?_eq_some_iff.mp hx).1; rw [sh4.2.1] at this; exact this
      obtain ⟨a, ea, ha⟩ := (sh4.keep s5).2.2 j jl
      rw [ea] at hx
      obtain rfl := Option.some.inj hx
      refine ⟨_, rfl, _, rfl, a, _, _, _, rfl, rfl, SqT.of ha, at_int (by rw [xl]; exact il), h5, ?_, nx (by rw [sh4.2.1]; exact jl) ⟨⟨_, rfl⟩, fun b o e => ?_, upd_same, ?_⟩⟩
      · rw [List.length_map, List.length_map, List.length_range]; exact Nat.lt_of_lt_of_le (show j < 1000 by lia) (by decide)
      · rw [upd_ne (ne_of_none e hl3)]; exact s5 b o e
      · rw [List.range_succ, List.map_append, List.map_append]; rfl
    rintro acc σ H5 ⟨⟨v, rfl⟩, s5, h5, rfl⟩
    rw [sh4.2.1] at h5
    refine ⟨l3, _, rfl, SqL.of h5, _, rfl, rfl, ?_⟩
    rw [dec_int, decide_eq_true (share_col ok tp.1 il)]
    refine ⟨s5 _ _ h4, ?_, nx (by lia) ⟨⟨_, rfl⟩, fun b o e => ?_, upd_same, ?_⟩⟩
    · rw [List.length_map, List.length_replicate]; exact Nat.lt_of_lt_of_le (show i < 1000 by lia) (by decide)
    · rw [upd_ne (ne_of_none e hl2)]; exact (s4.trans s5) b o e
    · rw [List.replicate_succ', List.map_append]; rfl
  rintro acc σ H4 ⟨⟨v, rfl⟩, s4, h4, rfl⟩
  refine ⟨l2, _, rfl, SqL.of h4, _, rfl, ?_⟩
  rw [trues]
  refine iteF ?_
  have sh4 := sh3.keep s4
  have na4 := na3.tups (Tups.of s4)
  refine ⟨_, rfl, r, _, _, _, rfl, rfl, SqT.of na4.net, rfl, N.lanes, rfl, by lia, by lia, ?_⟩
  refine for_range (lo := 0) (n := ((N.lanes : Nat) : Int).toNat) (fun i σ H5 => Same H4 H5 ∧ ∃ v3 v4 v5, σ = [some (.ref r), some (.ref p), some (.int (pw d)), v3, v4, v5]) ⟨Same.refl _, _, _, _, rfl⟩ ?_ ?_
  · rintro i σ H5 hi ⟨s5, v3, v4, v5, rfl⟩
    have il : i < N.lanes := by lia
    rw [Int.zero_add]
    generalize hx : endsM N (aloneL N.lanes i (pw d)) = xs
    have xn : xs.length = N.lanes := by rw [← hx]; exact xl i
    have ev := even_iff (xs := xs) (m := pw d) (by rw [← hx]; exact share_sum ok il _)
    have lo : ∀ x ∈ [i], x < N.lanes := fun x hx => by rw [List.mem_singleton.mp hx]; exact il
    refine ⟨_, rfl, _, rfl, (by show 1 ≤ sizeLine; decide), fun q hq => ?_⟩
    have s6 := same_new hq (.tup [.int i])
    refine ⟨r, fr, er, ps, N, q, [i], rfl, ok, na4.tups (Tups.of (s5.trans s6)), upd_same, lo, fun d2 H7 tp2 e2 s7 => ?_, fun d2 k2 hk2 one other H7 tp2 e2 fu2 s7 => ?_⟩
    all_goals
      obtain rfl := top_one tp tp2
    · have he : Even xs := by rw [← hx]; exact e2 0 (by show 0 < 1; lia)
      refine ⟨_, rfl, _, rfl, _, rfl, (by show 1 ≤ sizeLine; decide), fun q2 hq2 => ?_⟩
      have s8 := same_new hq2 (.tup [.int i])
      refine ⟨r, fr, er, ps, N, q2, [i], rfl, ok, na4.tups (Tups.of (((s5.trans s6).trans s7).trans s8)), upd_same, lo, fun d3 H9 tp3 e3 s9 => ?_, fun d3 k3 hk3 one3 other3 p3 H9 tp3 e3 fu3 s9 h9 => ?_⟩
      all_goals
        obtain rfl := top_one tp tp3
      rotate_left
      · have f3 := (by
          have k0 : k3 = 0 := by have : k3 < 1 := hk3; lia
          subst k0
          have f2 : FirstU (endsM N (aloneL N.lanes i (pw d))) one3 other3 := fu3
          rw [hx] at f2
          exact f2 : FirstU xs one3 other3)
        exact absurd (he one3 other3 f3.1 f3.2.1) f3.2.2.1
      refine ⟨rfl, rfl, _, rfl, ?_⟩
      rw [show (!decide (V.bl true = V.bl (decide (V.non = V.non)))) = false from rfl]
      refine iteF ?_
      have al : (xs.map fun x => decide (x * N.lanes = pw d)).all id = true := (all_is xs _ _).mpr (by rw [← xn]; exact ev.mp he)
      have u9 := (((s5.trans s6).trans s7).trans s8).trans s9
      have sh9 := sh4.keep u9
      have na9 := na4.tups (Tups.of u9)
      obtain ⟨a, ea, ha⟩ := sh9.2.2 i il
      rw [hx] at ha
      refine ⟨_, rfl, _, rfl, _, rfl, p, _, _, _, rfl, rfl, SqT.of sh9.1, atI_nat ea, a, rfl, ⟨_, SqT.of ha⟩, fun l5 hl5 => ?_⟩
      refine lc_tup (K := K) (a := a) (xs := xs.map V.int) (fun j acc σ H10 => (∃ v, σ = [v, some (.int (pw d)), some (.ref r)]) ∧ Same H9 H10 ∧ H10 l5 = some (.lst acc) ∧ acc = ((xs.take j).map fun x => decide (x * N.lanes = pw d)).map V.bl) ⟨⟨_, rfl⟩, same_new hl5 _, upd_same, rfl⟩ (fun j acc σ H10 q => ⟨q.2.2.1, SqT.of (q.2.1 _ _ ha)⟩) ?_ ?_
      · rintro j x acc σ H10 hxj ⟨⟨v, rfl⟩, s10, h10, rfl⟩
        have jl : j < xs.length := by have := (List.getElem?_eq_some_iff.mp hxj).1; rwa [List.length_map] at this
        rw [List.getElem?_map, List.getElem?_eq_getElem jl] at hxj
        obtain rfl := Option.some.inj hxj
        refine ⟨_, rfl, _, rfl, r, _, _, _, rfl, rfl, SqT.of (na9.tups (Tups.of s10)).net, rfl, _, _, rfl, rfl, .inr ⟨by lia, by lia⟩, _, rfl, rfl, h10, ?_, nx (by rw [List.length_map]; exact jl) ⟨⟨_, rfl⟩, fun b o e => ?_, upd_same, ?_⟩⟩
        · rw [List.length_map, List.length_map, List.length_take]; exact Nat.lt_of_lt_of_le (show _ < 1000 by lia) (by decide)
        · rw [upd_ne (ne_of_none e hl5)]; exact s10 b o e
        · rw [List.take_succ_eq_append_getElem jl, List.map_append, List.map_append]
          show _ = _ ++ [V.bl (decide (xs[j] * (N.lanes : Int) = pw d))]
          rw [← dec_int]
      rintro acc σ H10 ⟨⟨v, rfl⟩, s10, h10, rfl⟩
      rw [List.length_map, List.take_length] at h10
      refine ⟨l5, _, rfl, SqL.of h10, rfl, _, rfl, ?_⟩
      rw [al]
      refine iteF ⟨u9.trans s10, _, _, _, rfl⟩
    · have f2 := (by
          have k0 : k2 = 0 := by have : k2 < 1 := hk2; lia
          subst k0
          have f2 : FirstU (endsM N (aloneL N.lanes i (pw d))) one other := fu2
          rw [hx] at f2
          exact f2 : FirstU xs one other)
      refine ⟨_, rfl, _, rfl, _, rfl, (by show 1 ≤ sizeLine; decide), fun q2 hq2 => ?_⟩
      have s8 := same_new hq2 (.tup [.int i])
      refine ⟨r, fr, er, ps, N, q2, [i], rfl, ok, na4.tups (Tups.of (((s5.trans s6).trans s7).trans s8)), upd_same, lo, fun d3 H9 tp3 e3 s9 => ?_, fun d3 k3 hk3 one3 other3 p3 H9 tp3 e3 fu3 s9 h9 => ?_⟩
      all_goals
        obtain rfl := top_one tp tp3
      · exact absurd (by have he : Even xs := (by rw [← hx]; exact e3 0 (by show 0 < 1; lia)); exact he one other f2.1 f2.2.1) f2.2.2.1
      refine ⟨rfl, rfl, _, rfl, ?_⟩
      rw [show (!decide (V.bl false = V.bl (decide (V.ref p3 = V.non)))) = false from by simp]
      refine iteF ?_
      have al : (xs.map fun x => decide (x * N.lanes = pw d)).all id = false := by
        rw [← Bool.not_eq_true]
        intro z
        exact f2.2.2.1 (ev.mpr (by rw [xn]; exact (all_is xs _ _).mp z) one other f2.1 f2.2.1)
      have u9 := (((s5.trans s6).trans s7).trans s8).trans s9
      have sh9 := sh4.keep u9
      have na9 := na4.tups (Tups.of u9)
      obtain ⟨a, ea, ha⟩ := sh9.2.2 i il
      rw [hx] at ha
      refine ⟨_, rfl, _, rfl, _, rfl, p, _, _, _, rfl, rfl, SqT.of sh9.1, atI_nat ea, a, rfl, ⟨_, SqT.of ha⟩, fun l5 hl5 => ?_⟩
      refine lc_tup (K := K) (a := a) (xs := xs.map V.int) (fun j acc σ H10 => (∃ v, σ = [v, some (.int (pw d)), some (.ref r)]) ∧ Same H9 H10 ∧ H10 l5 = some (.lst acc) ∧ acc = ((xs.take j).map fun x => decide (x * N.lanes = pw d)).map V.bl) ⟨⟨_, rfl⟩, same_new hl5 _, upd_same, rfl⟩ (fun j acc σ H10 q => ⟨q.2.2.1, SqT.of (q.2.1 _ _ ha)⟩) ?_ ?_
      · rintro j x acc σ H10 hxj ⟨⟨v, rfl⟩, s10, h10, rfl⟩
        have jl : j < xs.length := by have := (List.getElem?_eq_some_iff.mp hxj).1; rwa [List.length_map] at this
        rw [List.getElem?_map, List.getElem?_eq_getElem jl] at hxj
        obtain rfl := Option.some.inj hxj
        refine ⟨_, rfl, _, rfl, r, _, _, _, rfl, rfl, SqT.of (na9.tups (Tups.of s10)).net, rfl, _, _, rfl, rfl, .inr ⟨by lia, by lia⟩, _, rfl, rfl, h10, ?_, nx (by rw [List.length_map]; exact jl) ⟨⟨_, rfl⟩, fun b o e => ?_, upd_same, ?_⟩⟩
        · rw [List.length_map, List.length_map, List.length_take]; exact Nat.lt_of_lt_of_le (show _ < 1000 by lia) (by decide)
        · rw [upd_ne (ne_of_none e hl5)]; exact s10 b o e
        · rw [List.take_succ_eq_append_getElem jl, List.map_append, List.map_append]
          show _ = _ ++ [V.bl (decide (xs[j] * (N.lanes : Int) = pw d))]
          rw [← dec_int]
      rintro acc σ H10 ⟨⟨v, rfl⟩, s10, h10, rfl⟩
      rw [List.length_map, List.take_length] at h10
      refine ⟨l5, _, rfl, SqL.of h10, rfl, _, rfl, ?_⟩
      rw [al]
      refine iteF ⟨u9.trans s10, _, _, _, rfl⟩
  · rintro σ H5 ⟨s5, v3, v4, v5, rfl⟩
    exact k H5 (((s1.trans s3).trans s4).trans s5)
end
end K33
end
section
set_option maxHeartbeats 4000001
namespace K33
open PySem L2 Own Bn
abbrev sNet : Stmt := top 30
section
variable {P : Program} {w : World} {K : PySem.W.Frag} {mg : Str → Option Value} {base : Heap}
theorem scN : FnScope ["_law_left_here", "_law_most", "_law_lanes", "_law_forks", "_law_k", "_law_one", "_law_fork", "_law_way", "_law_ends", "_law_lane"] ["_law_left_here", "_law_most"] (defScope sNet) := ⟨rfl, rfl, rfl, by decide +kernel, rfl, by decide +kernel, by decide +kernel⟩
theorem ok_net {f fK : Addr} {fd dK : FuncData} (most : Nat) (hmost : most ≤ 128) (F : Fun K "_law_net" "_law_net" sNet f fd) (G : Mgs mg) (UK : Use P w K mg base "_law_pick" ["_law_left_here", "_law_many"] 1 spPick fK dK) : FnOk P w K mg base CX0 2 f fd ["_law_left_here", "_law_most"] (spNet most) := by
  refine F.ok scN (fun vs H Q E h => ?_) (fun cdv A outer s H vs Q E hr h => ?_)
  · obtain ⟨l, rfl, _⟩ := h
    rfl
  obtain ⟨l, rfl, S, k⟩ := h
  obtain ⟨tE, hE, hqE⟩ : ∃ t', PSs (cxOf CX0 P w K mg base ["_law_left_here", "_law_most", "_law_lanes", "_law_forks", "_law_k", "_law_one", "_law_fork", "_law_way", "_law_ends", "_law_lane"] "_law_net" (defScope sNet) f cdv A outer s H E).nox ((defBody sNet).drop 3) t' ∧
      ∀ (lanes : Nat) (lf : Addr) (ps : List V) (fs : List (Nat × Nat)) (v4 v5 v6 v7 v8 v9 : Option V) (H1 : Hp), 1 ≤ lanes → lanes ≤ 16 → fs.length ≤ 128 → (∀ f ∈ fs, f.1 < lanes ∧ f.2 < lanes ∧ f.1 ≠ f.2) → PkAt H1 l → But l H H1 → H1 lf = some (.lst ps) → lf ≠ l → Prs H1 ps fs →
        t' { nx := fun _ H' => Q .non H', rt := Q } [some (.ref l), some (.int most), some (.int lanes), some (.ref lf), v4, v5, v6, v7, v8, v9] H1 := by
    refine ⟨_, (@pss_cons _ _ _ _ _ (@ps_set _ _ 8 _ _ _ _ scN.nd rfl (Or.inl rfl) (@pe_lst _ _ _ _ pa_nil) (by rfl) (by first | exact .inl rfl | exact .inr rfl | assumption)) (@pss_cons _ _ _ _ _ (@ps_for _ _ _ _ _ _ _ _ PassesOwn.never rfl (@pi_range1 _ _ _ _ _ _ rfl G.range (@pa_cons _ _ _ _ _ (@pv _ 2 _ _ (by rfl) (by first | exact Or.inl rfl | exact Or.inr (Or.inl rfl) | exact Or.inr (Or.inr rfl)) (by decide) (by decide)) pa_nil (by rfl)) (by rfl)) (@pg_name _ _ 9 _ scN.nd rfl (Or.inl rfl) (by first | exact .inl rfl | exact .inr rfl | assumption)) (@pss_one _ _ _ (@ps_expr _ _ _ _ (@pe_bm _ _ _ _ _ _ _ _ _ _ _ _ PySem.F.plainAttrs_list PySem.F.slot_list_insert PySem.F.type_list_insert mt_insert (@pv _ 8 _ _ (by rfl) (by first | exact Or.inl rfl | exact Or.inr (Or.inl rfl) | exact Or.inr (Or.inr rfl)) (by decide) (by decide)) (@pa_cons _ _ _ _ _ (@pe_call _ _ _ _ _ _ _ _ _ _ _ _ _ _ _ _ UK.ok hr (by rfl) UK.m UK.kp UK.b .nil pass0 (@pa_cons _ _ _ _ _ (@pv _ 0 _ _ (by rfl) (by first | exact Or.inl rfl | exact Or.inr (Or.inl rfl) | exact Or.inr (Or.inr rfl)) (by decide) (by decide)) (@pa_cons _ _ _ _ _ (@pe_op _ _ _ _ _ _ _ _ op_add (@pe_callB _ _ _ _ _ _ _ _ _ call_len_seq (by rfl) G.len PySem.boot_len (@pa_cons _ _ _ _ _ (@pv _ 8 _ _ (by rfl) (by first | exact Or.inl rfl | exact Or.inr (Or.inl rfl) | exact Or.inr (Or.inr rfl)) (by decide) (by decide)) pa_nil (by rfl)) (by decide) (by decide) (by rfl) (by rfl)) pe_int) pa_nil (by rfl)) (by rfl)) (by decide) (by rfl) (by rfl)) (@pa_cons _ _ _ _ _ (@pv _ 9 _ _ (by rfl) (by first | exact Or.inl rfl | exact Or.inr (Or.inl rfl) | exact Or.inr (Or.inr rfl)) (by decide) (by decide)) pa_nil (by rfl)) (by rfl)) (by rfl) (by rfl) (by rfl) (by rfl) (by rfl)) (by rfl))) (by intro _; rfl)) (@pss_one _ _ _ (@ps_ret _ _ _ _ (@pe_tup _ _ _ _ _ (@pa_cons _ _ _ _ _ (@pv _ 2 _ _ (by rfl) (by first | exact Or.inl rfl | exact Or.inr (Or.inl rfl) | exact Or.inr (Or.inr rfl)) (by decide) (by decide)) (@pa_cons _ _ _ _ _ (@pe_callTy _ _ _ _ _ _ _ _ _ call_tuple_of (by rfl) G.tuple (by rfl) (@pa_cons _ _ _ _ _ (@pv _ 3 _ _ (by rfl) (by first | exact Or.inl rfl | exact Or.inr (Or.inl rfl) | exact Or.inr (Or.inr rfl)) (by decide) (by decide)) pa_nil (by rfl)) (by decide) (by decide) (by rfl) (by rfl)) (@pa_cons _ _ _ _ _ (@pe_ix _ _ _ _ _ _ _ ix_list (@pe_lst _ _ _ _ (@pa_cons _ _ _ _ _ (@pe_callTy _ _ _ _ _ _ _ _ _ call_tuple_of (by rfl) G.tuple (by rfl) (@pa_cons _ _ _ _ _ (@pv _ 8 _ _ (by rfl) (by first | exact Or.inl rfl | exact Or.inr (Or.inl rfl) | exact Or.inr (Or.inr rfl)) (by decide) (by decide)) pa_nil (by rfl)) (by decide) (by decide) (by rfl) (by rfl)) (@pa_cons _ _ _ _ _ (@pe_tupRng _ _ _ _ _ _ _ rfl (by rfl) G.tuple (by rfl) G.range (@pa_cons _ _ _ _ _ (@pv _ 2 _ _ (by rfl) (by first | exact Or.inl rfl | exact Or.inr (Or.inl rfl) | exact Or.inr (Or.inr rfl)) (by decide) (by decide)) pa_nil (by rfl)) (by rfl) (by rfl)) pa_nil (by rfl)) (by rfl))) (@pe_call _ _ _ _ _ _ _ _ _ _ _ _ _ _ _ _ UK.ok hr (by rfl) UK.m UK.kp UK.b .nil pass0 (@pa_cons _ _ _ _ _ (@pv _ 0 _ _ (by rfl) (by first | exact Or.inl rfl | exact Or.inr (Or.inl rfl) | exact Or.inr (Or.inr rfl)) (by decide) (by decide)) (@pa_cons _ _ _ _ _ pe_int pa_nil (by rfl)) (by rfl)) (by decide) (by rfl) (by rfl)) (fun _ _ => rfl)) pa_nil (by rfl)) (by rfl)) (by rfl))))))), ?_⟩
    intro lanes lf ps fs v4 v5 v6 v7 v8 v9 H1 l1 l16 f128 fok S1 B1 h1 nl p1
    refine ⟨(by show 0 ≤ sizeLine; decide), fun le hle => ?_⟩
    have nle := S1.ne hle
    have nlf : lf ≠ le := ne_of_none h1 hle
    have fle := B1.frs hle
    refine ⟨_, rfl, lanes, rfl, by lia, by lia, for_range (lo := 0) (n := ((lanes : Nat) : Int).toNat) (fun i σ H2 => (∃ w9, σ = [some (.ref l), some (.int most), some (.int lanes), some (.ref lf), v4, v5, v6, v7, some (.ref le), w9]) ∧ PkAt H2 l ∧ But l H H2 ∧ H2 lf = some (.lst ps) ∧ Prs H2 ps fs ∧ ∃ es : List Nat, H2 le = some (.lst (nums es)) ∧ es.Perm (List.range i))
      ⟨⟨_, rfl⟩, S1.upd nle, B1.upd fle, by rw [upd_ne nlf]; exact h1, p1.tups (Tups.of (same_new hle _)), [], upd_same, .nil⟩ ?_ ?_⟩
    · rintro i σ H2 hi ⟨⟨w9, rfl⟩, S2, B2, h2, p2, es, h3, pe⟩
      have il : i < lanes := by lia
      have el : es.length = i := by rw [pe.length_eq, List.length_range]
      refine ⟨_, rfl, .inl ⟨rfl, _, SqL.of h3⟩, _, rfl, _, rfl, le, _, rfl, .inl (SqL.of h3), _, _, rfl, rfl, l, _, rfl, by lia, by rw [nums_len]; lia, S2, fun v H3 hv S3 B3 => ?_⟩
      have h4 := B3 le _ h3 nle.symm
      rw [nums_len] at hv
      refine ⟨_, rfl, le, _, _, v, rfl, rfl, h4, by rw [nums_len]; lia, by rw [nums_len]; lia, ⟨_, rfl⟩, S3.upd nle, (B2.trans B3).upd fle, ?_, ?_, es.take v ++ i :: es.drop v, ?_, ins_perm pe⟩
      · rw [upd_ne nlf]; exact B3 lf _ h2 nl
      · exact (p2.tups (B3.tups S2)).tups (Tups.lst h4)
      · rw [upd_same, Int.zero_add, nums_ins]
    · rintro σ H2 ⟨⟨w9, rfl⟩, S2, B2, h2, p2, es, h3, pe⟩
      have pe' : es.Perm (List.range lanes) := by have e : ((lanes : Nat) : Int).toNat = lanes := by lia
                                                  rw [e] at pe; exact pe
      refine ⟨_, rfl, _, rfl, lf, _, rfl, .inl ⟨SqL.of h2, fun fr hfr => ?_⟩⟩
      have s1 := same_new hfr (.tup ps)
      refine ⟨_, rfl, le, _, rfl, .inl ⟨SqL.of (s1 _ _ h3), fun e1 he1 => ?_⟩⟩
      have s2 := s1.trans (same_new he1 (.tup (nums es)))
      refine ⟨_, rfl, lanes, rfl, by lia, fun e2 he2 => ?_⟩
      have s3 := s2.trans (same_new he2 (if false = true then HO.lst (upTo lanes) else .tup (upTo lanes)))
      refine ⟨(by show 2 ≤ sizeLine; decide), fun q hq => ?_⟩
      have s4 := s3.trans (same_new hq (.lst [.ref e1, .ref e2]))
      have B4 : But l H _ := B2.trans (But.of s4)
      refine ⟨_, rfl, l, 2, rfl, by decide, by decide, S2.keep s4, fun v H3 hv S3 B3 => ?_⟩
      have nq : q ≠ l := ((S2.keep s3).ne hq).symm
      have hq3 := B3 q _ upd_same nq
      have T3 := B3.tups (S2.keep s4)
      have g1 : H3 e1 = some (.tup (nums es)) := T3 _ _ ((((Tups.of (same_new he2 _)).trans (Tups.of (same_new hq _)))) _ _ upd_same)
      have g2 : H3 e2 = some (.tup (nums (List.range lanes))) := T3 _ _ ((Tups.of (same_new hq _)) _ _ upd_same)
      have g0 : H3 fr = some (.tup ps) := T3 _ _ ((((Tups.of (same_new he1 _)).trans (Tups.of (same_new he2 _))).trans (Tups.of (same_new hq _))) _ _ upd_same)
      have pr := (p2.tups (Tups.of s4)).tups T3
      obtain ⟨er, en, hat, hen, hpe⟩ : ∃ (er : Addr) (en : List Nat), atI [V.ref e1, V.ref e2] ((v : Nat) : Int) = some (.ref er) ∧ H3 er = some (.tup (nums en)) ∧ en.Perm (List.range lanes) := by
        have vl : v < 2 := by lia
        rcases v with _ | _ | v
        · exact ⟨e1, es, atI_nat rfl, g1, pe'⟩
        · exact ⟨e2, _, atI_nat rfl, g2, .refl _⟩
        · lia
      refine ⟨q, _, _, _, rfl, rfl, SqL.of hq3, hat, (by show 3 ≤ sizeLine; decide), fun r hr' => ?_⟩
      have s5 := same_new hr' (.tup [.int lanes, .ref fr, .ref er])
      exact k r fr er ps ⟨lanes, fs, en⟩ _ ⟨l1, l16, f128, fok, hpe⟩ ⟨upd_same, s5 _ _ g0, pr.tups (Tups.of s5), s5 _ _ hen⟩ (S3.keep s5) ((B4.trans B3).trans (But.of s5))
  refine ⟨_, (@pss_cons _ _ _ _ _ (@ps_set _ _ 2 _ _ _ _ scN.nd rfl (Or.inl rfl) (@pe_ix _ _ _ _ _ _ _ ix_list (@pe_lst _ _ _ _ (@pa_cons _ _ _ _ _ pe_int (@pa_cons _ _ _ _ _ pe_int (@pa_cons _ _ _ _ _ pe_int (@pa_cons _ _ _ _ _ pe_int (@pa_cons _ _ _ _ _ pe_int (@pa_cons _ _ _ _ _ pe_int (@pa_cons _ _ _ _ _ pe_int (@pa_cons _ _ _ _ _ pe_int (@pa_cons _ _ _ _ _ pe_int (@pa_cons _ _ _ _ _ pe_int pa_nil (by rfl)) (by rfl)) (by rfl)) (by rfl)) (by rfl)) (by rfl)) (by rfl)) (by rfl)) (by rfl)) (by rfl))) (@pe_call _ _ _ _ _ _ _ _ _ _ _ _ _ _ _ _ UK.ok hr (by rfl) UK.m UK.kp UK.b .nil pass0 (@pa_cons _ _ _ _ _ (@pv _ 0 _ _ (by rfl) (by first | exact Or.inl rfl | exact Or.inr (Or.inl rfl) | exact Or.inr (Or.inr rfl)) (by decide) (by decide)) (@pa_cons _ _ _ _ _ pe_int pa_nil (by rfl)) (by rfl)) (by decide) (by rfl) (by rfl)) (fun _ _ => rfl)) (by rfl) (by first | exact .inl rfl | exact .inr rfl | assumption)) (@pss_cons _ _ _ _ _ (@ps_set _ _ 3 _ _ _ _ scN.nd rfl (Or.inl rfl) (@pe_lst _ _ _ _ pa_nil) (by rfl) (by first | exact .inl rfl | exact .inr rfl | assumption)) (@pss_cons _ _ _ _ _ (@ps_for _ _ _ _ _ _ _ _ PassesOwn.never rfl (@pi_range1 _ _ _ _ _ _ rfl G.range (@pa_cons _ _ _ _ _ (@pe_op _ _ _ _ _ _ _ _ op_mul (@pe_ix _ _ _ _ _ _ _ ix_list (@pe_lst _ _ _ _ (@pa_cons _ _ _ _ _ pe_int (@pa_cons _ _ _ _ _ pe_int (@pa_cons _ _ _ _ _ pe_int (@pa_cons _ _ _ _ _ pe_int (@pa_cons _ _ _ _ _ pe_int (@pa_cons _ _ _ _ _ pe_int (@pa_cons _ _ _ _ _ pe_int (@pa_cons _ _ _ _ _ (@pv _ 1 _ _ (by rfl) (by first | exact Or.inl rfl | exact Or.inr (Or.inl rfl) | exact Or.inr (Or.inr rfl)) (by decide) (by decide)) pa_nil (by rfl)) (by rfl)) (by rfl)) (by rfl)) (by rfl)) (by rfl)) (by rfl)) (by rfl))) (@pe_call _ _ _ _ _ _ _ _ _ _ _ _ _ _ _ _ UK.ok hr (by rfl) UK.m UK.kp UK.b .nil pass0 (@pa_cons _ _ _ _ _ (@pv _ 0 _ _ (by rfl) (by first | exact Or.inl rfl | exact Or.inr (Or.inl rfl) | exact Or.inr (Or.inr rfl)) (by decide) (by decide)) (@pa_cons _ _ _ _ _ pe_int pa_nil (by rfl)) (by rfl)) (by decide) (by rfl) (by rfl)) (fun _ _ => rfl)) (@pe_callTy _ _ _ _ _ _ _ _ _ call_int1 (by rfl) G.int (by rfl) (@pa_cons _ _ _ _ _ (@pe_cmpR _ _ _ _ _ _ _ _ op_gt (@pv _ 2 _ _ (by rfl) (by first | exact Or.inl rfl | exact Or.inr (Or.inl rfl) | exact Or.inr (Or.inr rfl)) (by decide) (by decide)) pe_int (nomark _)) pa_nil (by rfl)) (by decide) (by decide) (by rfl) (by rfl))) pa_nil (by rfl)) (by rfl)) (@pg_name _ _ 4 _ scN.nd rfl (Or.inl rfl) (by first | exact .inl rfl | exact .inr rfl | assumption)) (@pss_cons _ _ _ _ _ (@ps_set _ _ 5 _ _ _ _ scN.nd rfl (Or.inl rfl) (@pe_call _ _ _ _ _ _ _ _ _ _ _ _ _ _ _ _ UK.ok hr (by rfl) UK.m UK.kp UK.b .nil pass0 (@pa_cons _ _ _ _ _ (@pv _ 0 _ _ (by rfl) (by first | exact Or.inl rfl | exact Or.inr (Or.inl rfl) | exact Or.inr (Or.inr rfl)) (by decide) (by decide)) (@pa_cons _ _ _ _ _ (@pv _ 2 _ _ (by rfl) (by first | exact Or.inl rfl | exact Or.inr (Or.inl rfl) | exact Or.inr (Or.inr rfl)) (by decide) (by decide)) pa_nil (by rfl)) (by rfl)) (by decide) (by rfl) (by rfl)) (by rfl) (by first | exact .inl rfl | exact .inr rfl | assumption)) (@pss_cons _ _ _ _ _ (@ps_set _ _ 6 _ _ _ _ scN.nd rfl (Or.inl rfl) (@pe_tup _ _ _ _ _ (@pa_cons _ _ _ _ _ (@pv _ 5 _ _ (by rfl) (by first | exact Or.inl rfl | exact Or.inr (Or.inl rfl) | exact Or.inr (Or.inr rfl)) (by decide) (by decide)) (@pa_cons _ _ _ _ _ (@pe_op _ _ _ _ _ _ _ _ op_mod (@pe_op _ _ _ _ _ _ _ _ op_add (@pe_op _ _ _ _ _ _ _ _ op_add (@pv _ 5 _ _ (by rfl) (by first | exact Or.inl rfl | exact Or.inr (Or.inl rfl) | exact Or.inr (Or.inr rfl)) (by decide) (by decide)) pe_int) (@pe_call _ _ _ _ _ _ _ _ _ _ _ _ _ _ _ _ UK.ok hr (by rfl) UK.m UK.kp UK.b .nil pass0 (@pa_cons _ _ _ _ _ (@pv _ 0 _ _ (by rfl) (by first | exact Or.inl rfl | exact Or.inr (Or.inl rfl) | exact Or.inr (Or.inr rfl)) (by decide) (by decide)) (@pa_cons _ _ _ _ _ (@pe_callB _ _ _ _ _ _ _ _ _ (call_max2 rfl) (by rfl) G.max (by rfl) (@pa_cons _ _ _ _ _ pe_int (@pa_cons _ _ _ _ _ (@pe_op _ _ _ _ _ _ _ _ op_sub (@pv _ 2 _ _ (by rfl) (by first | exact Or.inl rfl | exact Or.inr (Or.inl rfl) | exact Or.inr (Or.inr rfl)) (by decide) (by decide)) pe_int) pa_nil (by rfl)) (by rfl)) (by decide) (by decide) (by rfl) (by rfl)) pa_nil (by rfl)) (by rfl)) (by decide) (by rfl) (by rfl))) (@pv _ 2 _ _ (by rfl) (by first | exact Or.inl rfl | exact Or.inr (Or.inl rfl) | exact Or.inr (Or.inr rfl)) (by decide) (by decide))) pa_nil (by rfl)) (by rfl))) (by rfl) (by first | exact .inl rfl | exact .inr rfl | assumption)) (@pss_cons _ _ _ _ _ (@ps_set _ _ 7 _ _ _ _ scN.nd rfl (Or.inl rfl) (@pe_call _ _ _ _ _ _ _ _ _ _ _ _ _ _ _ _ UK.ok hr (by rfl) UK.m UK.kp UK.b .nil pass0 (@pa_cons _ _ _ _ _ (@pv _ 0 _ _ (by rfl) (by first | exact Or.inl rfl | exact Or.inr (Or.inl rfl) | exact Or.inr (Or.inr rfl)) (by decide) (by decide)) (@pa_cons _ _ _ _ _ pe_int pa_nil (by rfl)) (by rfl)) (by decide) (by rfl) (by rfl)) (by rfl) (by first | exact .inl rfl | exact .inr rfl | assumption)) (@pss_cons _ _ _ _ _ (@ps_if _ _ _ _ _ _ _ _ (@pw_and _ _ _ _ _ _ _ (@pt_cmpR _ _ _ _ _ _ _ _ (op_neE hr.units0) (@pv _ 3 _ _ (by rfl) (by first | exact Or.inl rfl | exact Or.inr (Or.inl rfl) | exact Or.inr (Or.inr rfl)) (by decide) (by decide)) (@pe_lst _ _ _ _ pa_nil) (nomark _)) (@pw_and1 _ _ _ _ (@pt_cmpR _ _ _ _ _ _ _ _ op_lt (@pv _ 7 _ _ (by rfl) (by first | exact Or.inl rfl | exact Or.inr (Or.inl rfl) | exact Or.inr (Or.inr rfl)) (by decide) (by decide)) pe_int (nomark _)))).pt (@pss_one _ _ _ (@ps_set _ _ 6 _ _ _ _ scN.nd rfl (Or.inl rfl) (@pe_ix _ _ _ _ _ _ _ ix_list (@pe_lst _ _ _ _ (@pa_cons _ _ _ _ _ (@pe_ix _ _ _ _ _ _ _ ix_list (@pv _ 3 _ _ (by rfl) (by first | exact Or.inl rfl | exact Or.inr (Or.inl rfl) | exact Or.inr (Or.inr rfl)) (by decide) (by decide)) (@pe_un _ _ _ _ _ _ un_neg pe_int) (fun _ _ => rfl)) (@pa_cons _ _ _ _ _ (@pe_back _ _ _ _ _ _ _ (@pe_ix _ _ _ _ _ _ _ ix_list (@pv _ 3 _ _ (by rfl) (by first | exact Or.inl rfl | exact Or.inr (Or.inl rfl) | exact Or.inr (Or.inr rfl)) (by decide) (by decide)) (@pe_un _ _ _ _ _ _ un_neg pe_int) (fun _ _ => rfl)) (@po_some _ _ _ (@pe_un _ _ _ _ _ _ un_neg pe_int))) pa_nil (by rfl)) (by rfl))) (@pv _ 7 _ _ (by rfl) (by first | exact Or.inl rfl | exact Or.inr (Or.inl rfl) | exact Or.inr (Or.inr rfl)) (by decide) (by decide)) (fun _ _ => rfl)) (by rfl) (by first | exact .inl rfl | exact .inr rfl | assumption))) pss_nil) (@pss_one _ _ _ (@ps_expr _ _ _ _ (@pe_bm _ _ _ _ _ _ _ _ _ _ _ _ PySem.F.plainAttrs_list PySem.F.slot_list_append PySem.F.type_list_append mt_append (@pv _ 3 _ _ (by rfl) (by first | exact Or.inl rfl | exact Or.inr (Or.inl rfl) | exact Or.inr (Or.inr rfl)) (by decide) (by decide)) (@pa_cons _ _ _ _ _ (@pv _ 6 _ _ (by rfl) (by first | exact Or.inl rfl | exact Or.inr (Or.inl rfl) | exact Or.inr (Or.inr rfl)) (by decide) (by decide)) pa_nil (by rfl)) (by rfl) (by rfl) (by rfl) (by rfl) (by rfl)) (by rfl))))))) (by intro _; rfl)) @hE))), ?_⟩
  refine ⟨(by show 10 ≤ sizeLine; decide), fun p hp => ?_⟩
  have np := S.ne hp
  refine ⟨_, rfl, l, 10, rfl, by decide, by decide, S.upd np, fun v H1 hv S1 B1 => ?_⟩
  obtain ⟨lanes, lmem, hat⟩ := pick_at (xs := [2, 3, 4, 2, 4, 5, 8, 6, 1, 16]) (v := v) (by show v < 10; lia)
  have lb : ∀ n ∈ [2, 3, 4, 2, 4, 5, 8, 6, 1, 16], 1 ≤ n ∧ n ≤ 16 := by decide
  obtain ⟨l1, l16⟩ := lb lanes lmem
  refine ⟨p, _, _, _, rfl, rfl, SqL.of (B1 p _ upd_same np.symm), hat, ?_⟩
  have B1' : But l H H1 := (But.of (same_new hp _)).trans B1
  refine ⟨(by show 0 ≤ sizeLine; decide), fun lf hlf => ?_⟩
  have nlf := S1.ne hlf
  have flf := B1'.frs hlf
  refine ⟨_, rfl, (by show 8 ≤ sizeLine; decide), fun p2 hp2 => ?_⟩
  have S2 := (S1.upd (o := .lst []) nlf)
  have np2 := S2.ne hp2
  refine ⟨_, rfl, l, 8, rfl, by decide, by decide, S2.upd np2, fun v2 H2 hv2 S3 B3 => ?_⟩
  obtain ⟨fm, fmem, hat2⟩ := pick_at (xs := [0, 1, 2, 3, 5, 8, 12, most]) (v := v2) (by show v2 < 8; lia)
  have fb : fm ≤ 128 := by
    simp only [List.mem_cons, List.mem_nil_iff, or_false] at fmem
    lia
  refine ⟨p2, _, _, _, rfl, rfl, SqL.of (B3 p2 _ upd_same np2.symm), hat2, _, rfl, _, _, rfl, rfl, .inr ⟨_, rfl, _, _, rfl, rfl, .inl ⟨by lia, by lia⟩, ?_⟩⟩
  have cb : ((fm : Int) * (if decide ((1 : Int) < lanes) = true then 1 else 0)) = ((if 1 < lanes then fm else 0 : Nat) : Int) := by
    by_cases z : 1 < lanes
    · rw [if_pos (decide_eq_true (by lia)), if_pos z]; lia
    · rw [if_neg (by rw [decide_eq_false (by lia)]; exact Bool.false_ne_true), if_neg z]; lia
  have cl : (if 1 < lanes then fm else 0) ≤ 128 := by split <;> lia
  refine ⟨_, rfl, by rw [cb]; lia, by rw [cb]; lia, ?_⟩
  rw [cb]
  generalize hcnt : (if 1 < lanes then fm else 0) = cnt at cl
  have h3 : H2 lf = some (.lst []) := B3 lf _ (by rw [upd_ne (ne_of_none upd_same hp2)]; exact upd_same) nlf.symm
  have B2 : But l H H2 := ((B1'.upd (o := .lst []) flf).new hp2).trans B3
  refine for_range (lo := 0) (n := ((cnt : Nat) : Int).toNat) (fun i σ H4 => (∃ w4 w5 w6 w7 w8 w9, σ = [some (.ref l), some (.int most), some (.int lanes), some (.ref lf), w4, w5, w6, w7, w8, w9]) ∧ PkAt H4 l ∧ But l H H4 ∧ ∃ ps fs, H4 lf = some (.lst ps) ∧ Prs H4 ps fs ∧ fs.length = i ∧ ∀ f ∈ fs, f.1 < lanes ∧ f.2 < lanes ∧ f.1 ≠ f.2)
    ⟨⟨_, _, _, _, _, _, rfl⟩, S3, B2, [], [], h3, trivial, rfl, fun f hf => by simp at hf⟩ ?_ ?_
  · rintro i σ H4 hi ⟨⟨w4, w5, w6, w7, w8, w9, rfl⟩, S4, B4, ps, fs, h4, p4, len, fok⟩
    have ic : i < cnt := by lia
    have l2 : 1 < lanes := by
      by_cases z : 1 < lanes
      · exact z
      · rw [if_neg z] at hcnt; lia
    refine ⟨_, rfl, _, rfl, l, lanes, rfl, by lia, by lia, S4, fun one H5 ho S5 B5 => ?_⟩
    have mx : (if ((lanes : Int) - 1) > 1 then ((lanes : Int) - 1) else 1) = (lanes : Int) - 1 := by split <;> lia
    refine ⟨_, rfl, _, rfl, _, _, rfl, rfl, _, rfl, _, rfl, _, _, rfl, rfl, _, _, rfl, l, _, rfl, by rw [mx]; lia, by rw [mx]; lia, S5, fun d H6 hd S6 B6 => ?_⟩
    rw [mx] at hd
    refine ⟨_, _, rfl, rfl, _, rfl, _, _, rfl, rfl, by lia, (by show 2 ≤ sizeLine; decide), fun t ht => ?_⟩
    obtain ⟨ok1, ok2⟩ := other_ok (one := one) (d := d) (lanes := lanes) (by lia) (by lia)
    have ec : (((one + 1 + d) % lanes : Nat) : Int) = ((one : Int) + 1 + d) % lanes := by rw [Int.natCast_emod, Int.natCast_add, Int.natCast_add]; rfl
    have nt := S6.ne ht
    refine ⟨_, rfl, l, 6, rfl, by decide, by decide, S6.upd nt, fun way H7 hw S7 B7 => ?_⟩
    have B7' : But l H H7 := (((B4.trans B5).trans B6).new ht).trans B7
    have T7 : Tups H4 H7 := (((B5.tups S4).trans (B6.tups S5)).trans (Tups.of (same_new ht _))).trans (B7.tups (S6.upd nt))
    have h7 : H7 lf = some (.lst ps) := B7 lf _ (by rw [upd_ne (ne_of_none (B6 lf _ (B5 lf _ h4 nlf.symm) nlf.symm) ht)]; exact B6 lf _ (B5 lf _ h4 nlf.symm) nlf.symm) nlf.symm
    have p7 := p4.tups T7
    have t7 : H7 t = some (.tup [.int one, .int (((one + 1 + d) % lanes : Nat) : Int)]) := by rw [ec]; exact B7 t _ upd_same nt.symm
    have fin : ∀ (t' : Addr) (f' : Nat × Nat) (H8 : Hp), PkAt H8 l → But l H H8 → H8 lf = some (.lst ps) → Prs H8 ps fs → H8 t' = some (.tup [.int f'.1, .int f'.2]) → (f'.1 < lanes ∧ f'.2 < lanes ∧ f'.1 ≠ f'.2) →
        PkAt (upd H8 lf (.lst (ps ++ [.ref t']))) l ∧ But l H (upd H8 lf (.lst (ps ++ [.ref t']))) ∧ ∃ ps2 fs2, (upd H8 lf (.lst (ps ++ [.ref t']))) lf = some (.lst ps2) ∧ Prs (upd H8 lf (.lst (ps ++ [.ref t']))) ps2 fs2 ∧ fs2.length = i + 1 ∧ ∀ f ∈ fs2, f.1 < lanes ∧ f.2 < lanes ∧ f.1 ≠ f.2 := fun t' f' H8 S8 B8 h8 p8 e8 ok8 =>
      ⟨S8.upd nlf, B8.upd flf, ps ++ [.ref t'], fs ++ [f'], upd_same, ((p8.tups (Tups.lst h8)).add (Tups.lst h8 _ _ e8)), by simp [len], fun f hf => by
        rcases List.mem_append.mp hf with z | z
        · exact fok f z
        · rw [List.mem_singleton.mp z]; exact ok8⟩
    have pl := p4.len
    refine ⟨_, rfl, (by show 0 ≤ sizeLine; decide), fun e he => ?_⟩
    have s8 := same_new he (.lst [])
    have S8 := S7.keep s8
    have B8 := B7'.new (o := .lst []) he
    have h8 := s8 _ _ h7
    have p8 := p7.tups (Tups.of s8)
    have t8 := s8 _ _ t7
    refine ⟨lf, e, ps, rfl, rfl, SqL.of h8, SqL.of upd_same, _, rfl, ?_⟩
    have szp : ps.length < sizeLine := by rw [pl, len]; exact Nat.lt_of_lt_of_le (show i < 1000 by lia) (by decide)
    cases hps : ps.reverse with
    | nil =>
      have ep : ps = [] := by simpa using hps
      rw [show (!ps.isEmpty) = false by rw [ep]; rfl]
      exact iteF (iteF ⟨_, rfl, .inl ⟨rfl, _, SqL.of h8⟩, _, rfl, lf, _, _, rfl, rfl, h8, szp, ⟨_, _, _, _, _, _, rfl⟩, fin t (one, (one + 1 + d) % lanes) _ S8 B8 h8 p8 t8 ⟨by lia, ok1, ok2⟩⟩)
    | cons z zs =>
      have ep : ps = zs.reverse ++ [z] := by
        have := congrArg List.reverse hps
        rwa [List.reverse_reverse, List.reverse_cons] at this
      rw [show (!ps.isEmpty) = true by rw [ep]; simp]
      refine iteT ⟨_, rfl, _, _, rfl, rfl, _, rfl, ite2 (fun q => ?_) (fun q => ?_)⟩
      · have w2 : way < 2 := by have := of_decide_eq_true q; lia
        obtain ⟨a, f', rfl, ef, ea⟩ := p8.get (i := zs.length) (p := z) (by rw [ep, List.getElem?_append_right (by simp)]; simp)
        have okf := fok f' (List.mem_of_getElem? ef)
        have hat3 : atI ps (-1) = some (.ref a) := by rw [ep]; exact atI_last _ _
        refine ⟨_, rfl, _, rfl, lf, _, _, _, rfl, rfl, SqL.of h8, hat3, _, rfl, _, rfl, lf, _, _, _, rfl, rfl, SqL.of h8, hat3, _, rfl, _, rfl, rfl, a, _, _, rfl, SqT.of ea, fun b hb => ?_⟩
        have s9 := same_new hb (.tup [.int f'.2, .int f'.1])
        refine ⟨(by show 2 ≤ sizeLine; decide), fun c hc => ?_⟩
        have s10 := s9.trans (same_new hc (.lst [.ref a, .ref b]))
        have h10 := s10 _ _ h8
        obtain ⟨t', f2, hat4, e4, ok4⟩ : ∃ (t' : Addr) (f2 : Nat × Nat), atI [V.ref a, V.ref b] ((way : Nat) : Int) = some (.ref t') ∧ (upd (upd (upd H7 e (.lst [])) b (.tup [.int f'.2, .int f'.1])) c (.lst [.ref a, .ref b])) t' = some (.tup [.int f2.1, .int f2.2]) ∧ (f2.1 < lanes ∧ f2.2 < lanes ∧ f2.1 ≠ f2.2) := by
          rcases way with _ | _ | way
          · exact ⟨a, f', atI_nat rfl, s10 _ _ ea, okf⟩
          · exact ⟨b, (f'.2, f'.1), atI_nat rfl, (same_new hc _) _ _ upd_same, okf.2.1, okf.1, okf.2.2.symm⟩
          · lia
        exact ⟨_, rfl, c, _, _, _, rfl, rfl, SqL.of upd_same, hat4, _, rfl, .inl ⟨rfl, _, SqL.of h10⟩, _, rfl, lf, _, _, rfl, rfl, h10, szp, ⟨_, _, _, _, _, _, rfl⟩, fin t' f2 _ (S8.keep s10) ((B8.new hb).new hc) h10 (p8.tups (Tups.of s10)) e4 ok4⟩
      · exact ⟨_, rfl, .inl ⟨rfl, _, SqL.of h8⟩, _, rfl, lf, _, _, rfl, rfl, h8, szp, ⟨_, _, _, _, _, _, rfl⟩, fin t (one, (one + 1 + d) % lanes) _ S8 B8 h8 p8 t8 ⟨by lia, ok1, ok2⟩⟩
  · rintro σ H4 ⟨⟨w4, w5, w6, w7, w8, w9, rfl⟩, S4, B4, ps, fs, h4, p4, len, fok⟩
    exact hqE lanes lf ps fs _ _ _ _ _ _ H4 l1 l16 (by rw [len]; lia) fok S4 B4 h4 nlf.symm p4
end
end K33
end
section
set_option maxHeartbeats 4000001
namespace K33
open PySem L2 Own Bn
abbrev sEven : Stmt := top 31
def spEven : Sp := fun vs H Q _ => ∃ l : Addr, vs = [.ref l, .int 3] ∧ PkAt H l ∧ ∀ r fr er ps N H', Nt.Ok N → NetAt H' r fr er ps N → PkAt H' l → But l H H' → Q (.ref r) H'
theorem far_ok : ∀ lanes ∈ [1, 2, 4, 8], ∀ x ∈ [1, 2, 4], x < lanes → ∀ lane, lane < lanes → lane / x % 2 = 0 → lane + x < lanes := by decide
theorem row_ok : ∀ p, p < 4 → ∀ x ∈ ([1, 2, 4] : List Nat).take p, x ∈ ([1, 2, 4] : List Nat) ∧ x < ([1, 2, 4, 8] : List Nat).getD p 0 := by decide
theorem nums_erase (es : List Nat) (k : Nat) : (nums es).eraseIdx k = nums (es.eraseIdx k) := by
  unfold nums
  rw [List.eraseIdx_eq_take_drop_succ, List.eraseIdx_eq_take_drop_succ, List.map_append, List.map_take, List.map_drop]
theorem add_fork {H H8 : Hp} {l lf t : Addr} {ps : List V} {fs : List (Nat × Nat)} {lanes : Nat} {f' : Nat × Nat} (nlf : l ≠ lf) (flf : Frs l H lf) (S8 : PkAt H8 l) (B8 : But l H H8) (h8 : H8 lf = some (.lst ps)) (p8 : Prs H8 ps fs) (e8 : H8 t = some (.tup [.int f'.1, .int f'.2]))
    (fok : ∀ f ∈ fs, f.1 < lanes ∧ f.2 < lanes ∧ f.1 ≠ f.2) (ok8 : f'.1 < lanes ∧ f'.2 < lanes ∧ f'.1 ≠ f'.2) {m : Nat} (hm : fs.length + 1 ≤ m) :
    PkAt (L2.upd H8 lf (.lst (ps ++ [.ref t]))) l ∧ But l H (L2.upd H8 lf (.lst (ps ++ [.ref t]))) ∧ ∃ ps2 fs2, (L2.upd H8 lf (.lst (ps ++ [.ref t]))) lf = some (.lst ps2) ∧ Prs (L2.upd H8 lf (.lst (ps ++ [.ref t]))) ps2 fs2 ∧ fs2.length ≤ m ∧ ∀ f ∈ fs2, f.1 < lanes ∧ f.2 < lanes ∧ f.1 ≠ f.2 :=
  ⟨S8.upd nlf, B8.upd flf, ps ++ [.ref t], fs ++ [f'], upd_same, (p8.tups (Tups.lst h8)).add (Tups.lst h8 _ _ e8), by rw [List.length_append]; exact hm, fun f hf => by
    rcases List.mem_append.mp hf with z | z
    · exact fok f z
    · rw [List.mem_singleton.mp z]; exact ok8⟩
theorem small_ps {H : Hp} {ps : List V} {fs : List (Nat × Nat)} (p : Prs H ps fs) (h : fs.length ≤ 900) : ps.length < sizeLine := by rw [p.len]; exact Nat.lt_of_lt_of_le (show fs.length < 1000 by lia) (by decide)
section
variable {P : Program} {w : World} {K : PySem.W.Frag} {mg : Str → Option Value} {base : Heap}
theorem scV : FnScope ["_law_left_here", "_law_most", "_law_power", "_law_lanes", "_law_forks", "_law_turn", "_law_k", "_law_one", "_law_row", "_law_far", "_law_lane", "_law_ends"] ["_law_left_here", "_law_most"] (defScope sEven) := ⟨rfl, rfl, rfl, by decide +kernel, rfl, by decide +kernel, by decide +kernel⟩
theorem ok_even {f fK : Addr} {fd dK : FuncData} (F : Fun K "_law_even_net" "_law_even_net" sEven f fd) (G : Mgs mg) (UK : Use P w K mg base "_law_pick" ["_law_left_here", "_law_many"] 1 spPick fK dK) : FnOk P w K mg base CX0 2 f fd ["_law_left_here", "_law_most"] spEven := by
  refine F.ok scV (fun vs H Q E h => ?_) (fun cdv A outer s H vs Q E hr h => ?_)
  · obtain ⟨l, rfl, _⟩ := h
    rfl
  obtain ⟨l, rfl, S, k⟩ := h
  refine ⟨_, (@pss_cons _ _ _ _ _ (@ps_set _ _ 2 _ _ _ _ scV.nd rfl (Or.inl rfl) (@pe_call _ _ _ _ _ _ _ _ _ _ _ _ _ _ _ _ UK.ok hr (by rfl) UK.m UK.kp UK.b .nil pass0 (@pa_cons _ _ _ _ _ (@pv _ 0 _ _ (by rfl) (by first | exact Or.inl rfl | exact Or.inr (Or.inl rfl) | exact Or.inr (Or.inr rfl)) (by decide) (by decide)) (@pa_cons _ _ _ _ _ pe_int pa_nil (by rfl)) (by rfl)) (by decide) (by rfl) (by rfl)) (by rfl) (by first | exact .inl rfl | exact .inr rfl | assumption)) (@pss_cons _ _ _ _ _ (@ps_set _ _ 3 _ _ _ _ scV.nd rfl (Or.inl rfl) (@pe_ix _ _ _ _ _ _ _ ix_list (@pe_lst _ _ _ _ (@pa_cons _ _ _ _ _ pe_int (@pa_cons _ _ _ _ _ pe_int (@pa_cons _ _ _ _ _ pe_int (@pa_cons _ _ _ _ _ pe_int pa_nil (by rfl)) (by rfl)) (by rfl)) (by rfl))) (@pv _ 2 _ _ (by rfl) (by first | exact Or.inl rfl | exact Or.inr (Or.inl rfl) | exact Or.inr (Or.inr rfl)) (by decide) (by decide)) (fun _ _ => rfl)) (by rfl) (by first | exact .inl rfl | exact .inr rfl | assumption)) (@pss_cons _ _ _ _ _ (@ps_set _ _ 4 _ _ _ _ scV.nd rfl (Or.inl rfl) (@pe_lst _ _ _ _ pa_nil) (by rfl) (by first | exact .inl rfl | exact .inr rfl | assumption)) (@pss_cons _ _ _ _ _ (@ps_for _ _ _ _ _ _ _ _ PassesOwn.never rfl (@pi_range1 _ _ _ _ _ _ rfl G.range (@pa_cons _ _ _ _ _ (@pe_op _ _ _ _ _ _ _ _ op_add pe_int (@pe_call _ _ _ _ _ _ _ _ _ _ _ _ _ _ _ _ UK.ok hr (by rfl) UK.m UK.kp UK.b .nil pass0 (@pa_cons _ _ _ _ _ (@pv _ 0 _ _ (by rfl) (by first | exact Or.inl rfl | exact Or.inr (Or.inl rfl) | exact Or.inr (Or.inr rfl)) (by decide) (by decide)) (@pa_cons _ _ _ _ _ pe_int pa_nil (by rfl)) (by rfl)) (by decide) (by rfl) (by rfl))) pa_nil (by rfl)) (by rfl)) (@pg_name _ _ 5 _ scV.nd rfl (Or.inl rfl) (by first | exact .inl rfl | exact .inr rfl | assumption)) (@pss_cons _ _ _ _ _ (@ps_for _ _ _ _ _ _ _ _ PassesOwn.never rfl (@pi_range1 _ _ _ _ _ _ rfl G.range (@pa_cons _ _ _ _ _ (@pe_op _ _ _ _ _ _ _ _ op_mul (@pe_call _ _ _ _ _ _ _ _ _ _ _ _ _ _ _ _ UK.ok hr (by rfl) UK.m UK.kp UK.b .nil pass0 (@pa_cons _ _ _ _ _ (@pv _ 0 _ _ (by rfl) (by first | exact Or.inl rfl | exact Or.inr (Or.inl rfl) | exact Or.inr (Or.inr rfl)) (by decide) (by decide)) (@pa_cons _ _ _ _ _ (@pe_op _ _ _ _ _ _ _ _ op_add pe_int (@pv _ 1 _ _ (by rfl) (by first | exact Or.inl rfl | exact Or.inr (Or.inl rfl) | exact Or.inr (Or.inr rfl)) (by decide) (by decide))) pa_nil (by rfl)) (by rfl)) (by decide) (by rfl) (by rfl)) (@pe_callTy _ _ _ _ _ _ _ _ _ call_int1 (by rfl) G.int (by rfl) (@pa_cons _ _ _ _ _ (@pe_cmpR _ _ _ _ _ _ _ _ op_gt (@pv _ 3 _ _ (by rfl) (by first | exact Or.inl rfl | exact Or.inr (Or.inl rfl) | exact Or.inr (Or.inr rfl)) (by decide) (by decide)) pe_int (nomark _)) pa_nil (by rfl)) (by decide) (by decide) (by rfl) (by rfl))) pa_nil (by rfl)) (by rfl)) (@pg_name _ _ 6 _ scV.nd rfl (Or.inl rfl) (by first | exact .inl rfl | exact .inr rfl | assumption)) (@pss_cons _ _ _ _ _ (@ps_set _ _ 7 _ _ _ _ scV.nd rfl (Or.inl rfl) (@pe_call _ _ _ _ _ _ _ _ _ _ _ _ _ _ _ _ UK.ok hr (by rfl) UK.m UK.kp UK.b .nil pass0 (@pa_cons _ _ _ _ _ (@pv _ 0 _ _ (by rfl) (by first | exact Or.inl rfl | exact Or.inr (Or.inl rfl) | exact Or.inr (Or.inr rfl)) (by decide) (by decide)) (@pa_cons _ _ _ _ _ (@pv _ 3 _ _ (by rfl) (by first | exact Or.inl rfl | exact Or.inr (Or.inl rfl) | exact Or.inr (Or.inr rfl)) (by decide) (by decide)) pa_nil (by rfl)) (by rfl)) (by decide) (by rfl) (by rfl)) (by rfl) (by first | exact .inl rfl | exact .inr rfl | assumption)) (@pss_one _ _ _ (@ps_expr _ _ _ _ (@pe_bm _ _ _ _ _ _ _ _ _ _ _ _ PySem.F.plainAttrs_list PySem.F.slot_list_append PySem.F.type_list_append mt_append (@pv _ 4 _ _ (by rfl) (by first | exact Or.inl rfl | exact Or.inr (Or.inl rfl) | exact Or.inr (Or.inr rfl)) (by decide) (by decide)) (@pa_cons _ _ _ _ _ (@pe_tup _ _ _ _ _ (@pa_cons _ _ _ _ _ (@pv _ 7 _ _ (by rfl) (by first | exact Or.inl rfl | exact Or.inr (Or.inl rfl) | exact Or.inr (Or.inr rfl)) (by decide) (by decide)) (@pa_cons _ _ _ _ _ (@pe_op _ _ _ _ _ _ _ _ op_mod (@pe_op _ _ _ _ _ _ _ _ op_add (@pe_op _ _ _ _ _ _ _ _ op_add (@pv _ 7 _ _ (by rfl) (by first | exact Or.inl rfl | exact Or.inr (Or.inl rfl) | exact Or.inr (Or.inr rfl)) (by decide) (by decide)) pe_int) (@pe_call _ _ _ _ _ _ _ _ _ _ _ _ _ _ _ _ UK.ok hr (by rfl) UK.m UK.kp UK.b .nil pass0 (@pa_cons _ _ _ _ _ (@pv _ 0 _ _ (by rfl) (by first | exact Or.inl rfl | exact Or.inr (Or.inl rfl) | exact Or.inr (Or.inr rfl)) (by decide) (by decide)) (@pa_cons _ _ _ _ _ (@pe_op _ _ _ _ _ _ _ _ op_sub (@pv _ 3 _ _ (by rfl) (by first | exact Or.inl rfl | exact Or.inr (Or.inl rfl) | exact Or.inr (Or.inr rfl)) (by decide) (by decide)) pe_int) pa_nil (by rfl)) (by rfl)) (by decide) (by rfl) (by rfl))) (@pv _ 3 _ _ (by rfl) (by first | exact Or.inl rfl | exact Or.inr (Or.inl rfl) | exact Or.inr (Or.inr rfl)) (by decide) (by decide))) pa_nil (by rfl)) (by rfl))) pa_nil (by rfl)) (by rfl) (by rfl) (by rfl) (by rfl) (by rfl)) (by rfl)))) (by intro _; rfl)) (@pss_cons _ _ _ _ _ (@ps_set _ _ 8 _ _ _ _ scV.nd rfl (Or.inl rfl) (@pe_slice _ _ _ _ _ _ _ _ _ _ sl_list (@pe_lst _ _ _ _ (@pa_cons _ _ _ _ _ pe_int (@pa_cons _ _ _ _ _ pe_int (@pa_cons _ _ _ _ _ pe_int pa_nil (by rfl)) (by rfl)) (by rfl))) po_none (@po_some _ _ _ (@pv _ 2 _ _ (by rfl) (by first | exact Or.inl rfl | exact Or.inr (Or.inl rfl) | exact Or.inr (Or.inr rfl)) (by decide) (by decide)))) (by rfl) (by first | exact .inl rfl | exact .inr rfl | assumption)) (@pss_one _ _ _ (@ps_while _ _ _ _ _ _ PassesOwn.never (@pt_cmpR _ _ _ _ _ _ _ _ (op_neE hr.units0) (@pv _ 8 _ _ (by rfl) (by first | exact Or.inl rfl | exact Or.inr (Or.inl rfl) | exact Or.inr (Or.inr rfl)) (by decide) (by decide)) (@pe_lst _ _ _ _ pa_nil) (nomark _)) (@pss_cons _ _ _ _ _ (@ps_set _ _ 9 _ _ _ _ scV.nd rfl (Or.inl rfl) (@pe_bm _ _ _ _ _ _ _ _ _ _ _ _ PySem.F.plainAttrs_list PySem.F.slot_list_pop PySem.F.type_list_pop mt_popAt (@pv _ 8 _ _ (by rfl) (by first | exact Or.inl rfl | exact Or.inr (Or.inl rfl) | exact Or.inr (Or.inr rfl)) (by decide) (by decide)) (@pa_cons _ _ _ _ _ (@pe_call _ _ _ _ _ _ _ _ _ _ _ _ _ _ _ _ UK.ok hr (by rfl) UK.m UK.kp UK.b .nil pass0 (@pa_cons _ _ _ _ _ (@pv _ 0 _ _ (by rfl) (by first | exact Or.inl rfl | exact Or.inr (Or.inl rfl) | exact Or.inr (Or.inr rfl)) (by decide) (by decide)) (@pa_cons _ _ _ _ _ (@pe_callB _ _ _ _ _ _ _ _ _ call_len_seq (by rfl) G.len PySem.boot_len (@pa_cons _ _ _ _ _ (@pv _ 8 _ _ (by rfl) (by first | exact Or.inl rfl | exact Or.inr (Or.inl rfl) | exact Or.inr (Or.inr rfl)) (by decide) (by decide)) pa_nil (by rfl)) (by decide) (by decide) (by rfl) (by rfl)) pa_nil (by rfl)) (by rfl)) (by decide) (by rfl) (by rfl)) pa_nil (by rfl)) (by rfl) (by rfl) (by rfl) (by rfl) (by rfl)) (by rfl) (by first | exact .inl rfl | exact .inr rfl | assumption)) (@pss_one _ _ _ (@ps_for _ _ _ _ _ _ _ _ PassesOwn.never rfl (@pi_range1 _ _ _ _ _ _ rfl G.range (@pa_cons _ _ _ _ _ (@pv _ 3 _ _ (by rfl) (by first | exact Or.inl rfl | exact Or.inr (Or.inl rfl) | exact Or.inr (Or.inr rfl)) (by decide) (by decide)) pa_nil (by rfl)) (by rfl)) (@pg_name _ _ 10 _ scV.nd rfl (Or.inl rfl) (by first | exact .inl rfl | exact .inr rfl | assumption)) (@pss_one _ _ _ (@ps_if _ _ _ _ _ _ _ _ (@pt_cmpR _ _ _ _ _ _ _ _ op_eq (@pe_op _ _ _ _ _ _ _ _ op_mod (@pe_op _ _ _ _ _ _ _ _ op_fdiv (@pv _ 10 _ _ (by rfl) (by first | exact Or.inl rfl | exact Or.inr (Or.inl rfl) | exact Or.inr (Or.inr rfl)) (by decide) (by decide)) (@pv _ 9 _ _ (by rfl) (by first | exact Or.inl rfl | exact Or.inr (Or.inl rfl) | exact Or.inr (Or.inr rfl)) (by decide) (by decide))) pe_int) pe_int (nomark _)) (@pss_one _ _ _ (@ps_expr _ _ _ _ (@pe_bm _ _ _ _ _ _ _ _ _ _ _ _ PySem.F.plainAttrs_list PySem.F.slot_list_append PySem.F.type_list_append mt_append (@pv _ 4 _ _ (by rfl) (by first | exact Or.inl rfl | exact Or.inr (Or.inl rfl) | exact Or.inr (Or.inr rfl)) (by decide) (by decide)) (@pa_cons _ _ _ _ _ (@pe_ix _ _ _ _ _ _ _ ix_list (@pe_lst _ _ _ _ (@pa_cons _ _ _ _ _ (@pe_tup _ _ _ _ _ (@pa_cons _ _ _ _ _ (@pv _ 10 _ _ (by rfl) (by first | exact Or.inl rfl | exact Or.inr (Or.inl rfl) | exact Or.inr (Or.inr rfl)) (by decide) (by decide)) (@pa_cons _ _ _ _ _ (@pe_op _ _ _ _ _ _ _ _ op_add (@pv _ 10 _ _ (by rfl) (by first | exact Or.inl rfl | exact Or.inr (Or.inl rfl) | exact Or.inr (Or.inr rfl)) (by decide) (by decide)) (@pv _ 9 _ _ (by rfl) (by first | exact Or.inl rfl | exact Or.inr (Or.inl rfl) | exact Or.inr (Or.inr rfl)) (by decide) (by decide))) pa_nil (by rfl)) (by rfl))) (@pa_cons _ _ _ _ _ (@pe_tup _ _ _ _ _ (@pa_cons _ _ _ _ _ (@pe_op _ _ _ _ _ _ _ _ op_add (@pv _ 10 _ _ (by rfl) (by first | exact Or.inl rfl | exact Or.inr (Or.inl rfl) | exact Or.inr (Or.inr rfl)) (by decide) (by decide)) (@pv _ 9 _ _ (by rfl) (by first | exact Or.inl rfl | exact Or.inr (Or.inl rfl) | exact Or.inr (Or.inr rfl)) (by decide) (by decide))) (@pa_cons _ _ _ _ _ (@pv _ 10 _ _ (by rfl) (by first | exact Or.inl rfl | exact Or.inr (Or.inl rfl) | exact Or.inr (Or.inr rfl)) (by decide) (by decide)) pa_nil (by rfl)) (by rfl))) pa_nil (by rfl)) (by rfl))) (@pe_op _ _ _ _ _ _ _ _ op_fdiv (@pe_call _ _ _ _ _ _ _ _ _ _ _ _ _ _ _ _ UK.ok hr (by rfl) UK.m UK.kp UK.b .nil pass0 (@pa_cons _ _ _ _ _ (@pv _ 0 _ _ (by rfl) (by first | exact Or.inl rfl | exact Or.inr (Or.inl rfl) | exact Or.inr (Or.inr rfl)) (by decide) (by decide)) (@pa_cons _ _ _ _ _ pe_int pa_nil (by rfl)) (by rfl)) (by decide) (by rfl) (by rfl)) pe_int) (fun _ _ => rfl)) pa_nil (by rfl)) (by rfl) (by rfl) (by rfl) (by rfl) (by rfl)) (by rfl))) pss_nil)) (by intro _; rfl)))))))) (by intro _; rfl)) (@pss_cons _ _ _ _ _ (@ps_set _ _ 11 _ _ _ _ scV.nd rfl (Or.inl rfl) (@pe_lst _ _ _ _ pa_nil) (by rfl) (by first | exact .inl rfl | exact .inr rfl | assumption)) (@pss_cons _ _ _ _ _ (@ps_for _ _ _ _ _ _ _ _ PassesOwn.never rfl (@pi_range1 _ _ _ _ _ _ rfl G.range (@pa_cons _ _ _ _ _ (@pv _ 3 _ _ (by rfl) (by first | exact Or.inl rfl | exact Or.inr (Or.inl rfl) | exact Or.inr (Or.inr rfl)) (by decide) (by decide)) pa_nil (by rfl)) (by rfl)) (@pg_name _ _ 10 _ scV.nd rfl (Or.inl rfl) (by first | exact .inl rfl | exact .inr rfl | assumption)) (@pss_one _ _ _ (@ps_expr _ _ _ _ (@pe_bm _ _ _ _ _ _ _ _ _ _ _ _ PySem.F.plainAttrs_list PySem.F.slot_list_insert PySem.F.type_list_insert mt_insert (@pv _ 11 _ _ (by rfl) (by first | exact Or.inl rfl | exact Or.inr (Or.inl rfl) | exact Or.inr (Or.inr rfl)) (by decide) (by decide)) (@pa_cons _ _ _ _ _ (@pe_call _ _ _ _ _ _ _ _ _ _ _ _ _ _ _ _ UK.ok hr (by rfl) UK.m UK.kp UK.b .nil pass0 (@pa_cons _ _ _ _ _ (@pv _ 0 _ _ (by rfl) (by first | exact Or.inl rfl | exact Or.inr (Or.inl rfl) | exact Or.inr (Or.inr rfl)) (by decide) (by decide)) (@pa_cons _ _ _ _ _ (@pe_op _ _ _ _ _ _ _ _ op_add (@pe_callB _ _ _ _ _ _ _ _ _ call_len_seq (by rfl) G.len PySem.boot_len (@pa_cons _ _ _ _ _ (@pv _ 11 _ _ (by rfl) (by first | exact Or.inl rfl | exact Or.inr (Or.inl rfl) | exact Or.inr (Or.inr rfl)) (by decide) (by decide)) pa_nil (by rfl)) (by decide) (by decide) (by rfl) (by rfl)) pe_int) pa_nil (by rfl)) (by rfl)) (by decide) (by rfl) (by rfl)) (@pa_cons _ _ _ _ _ (@pv _ 10 _ _ (by rfl) (by first | exact Or.inl rfl | exact Or.inr (Or.inl rfl) | exact Or.inr (Or.inr rfl)) (by decide) (by decide)) pa_nil (by rfl)) (by rfl)) (by rfl) (by rfl) (by rfl) (by rfl) (by rfl)) (by rfl))) (by intro _; rfl)) (@pss_one _ _ _ (@ps_ret _ _ _ _ (@pe_tup _ _ _ _ _ (@pa_cons _ _ _ _ _ (@pv _ 3 _ _ (by rfl) (by first | exact Or.inl rfl | exact Or.inr (Or.inl rfl) | exact Or.inr (Or.inr rfl)) (by decide) (by decide)) (@pa_cons _ _ _ _ _ (@pe_callTy _ _ _ _ _ _ _ _ _ call_tuple_of (by rfl) G.tuple (by rfl) (@pa_cons _ _ _ _ _ (@pv _ 4 _ _ (by rfl) (by first | exact Or.inl rfl | exact Or.inr (Or.inl rfl) | exact Or.inr (Or.inr rfl)) (by decide) (by decide)) pa_nil (by rfl)) (by decide) (by decide) (by rfl) (by rfl)) (@pa_cons _ _ _ _ _ (@pe_ix _ _ _ _ _ _ _ ix_list (@pe_lst _ _ _ _ (@pa_cons _ _ _ _ _ (@pe_callTy _ _ _ _ _ _ _ _ _ call_tuple_of (by rfl) G.tuple (by rfl) (@pa_cons _ _ _ _ _ (@pv _ 11 _ _ (by rfl) (by first | exact Or.inl rfl | exact Or.inr (Or.inl rfl) | exact Or.inr (Or.inr rfl)) (by decide) (by decide)) pa_nil (by rfl)) (by decide) (by decide) (by rfl) (by rfl)) (@pa_cons _ _ _ _ _ (@pe_tupRng _ _ _ _ _ _ _ rfl (by rfl) G.tuple (by rfl) G.range (@pa_cons _ _ _ _ _ (@pv _ 3 _ _ (by rfl) (by first | exact Or.inl rfl | exact Or.inr (Or.inl rfl) | exact Or.inr (Or.inr rfl)) (by decide) (by decide)) pa_nil (by rfl)) (by rfl) (by rfl)) pa_nil (by rfl)) (by rfl))) (@pe_call _ _ _ _ _ _ _ _ _ _ _ _ _ _ _ _ UK.ok hr (by rfl) UK.m UK.kp UK.b .nil pass0 (@pa_cons _ _ _ _ _ (@pv _ 0 _ _ (by rfl) (by first | exact Or.inl rfl | exact Or.inr (Or.inl rfl) | exact Or.inr (Or.inr rfl)) (by decide) (by decide)) (@pa_cons _ _ _ _ _ pe_int pa_nil (by rfl)) (by rfl)) (by decide) (by rfl) (by rfl)) (fun _ _ => rfl)) pa_nil (by rfl)) (by rfl)) (by rfl))))))))))), ?_⟩
  refine ⟨_, rfl, l, 4, rfl, by decide, by decide, S, fun pw H1 hpw S1 B1 => ?_⟩
  have pl4 : pw < 4 := by lia
  refine ⟨(by show 4 ≤ sizeLine; decide), fun p hp => ?_⟩
  have s2 := same_new hp (.lst [.int 1, .int 2, .int 4, .int 8])
  have S2 := S1.keep s2
  have B2 : But l H _ := B1.trans (But.of s2)
  obtain ⟨lanes, elanes⟩ : ∃ lanes, lanes = ([1, 2, 4, 8] : List Nat).getD pw 0 := ⟨_, rfl⟩
  have hat : atI (nums [1, 2, 4, 8]) ((pw : Nat) : Int) = some (.int lanes) := by
    rw [at_nums (by show pw < 4; lia), elanes, List.getD_eq_getElem?_getD, List.getElem?_eq_getElem (by show pw < 4; lia)]; rfl
  have lmem : lanes ∈ ([1, 2, 4, 8] : List Nat) := by
    rw [elanes, List.getD_eq_getElem?_getD, List.getElem?_eq_getElem (by show pw < 4; lia)]; exact List.getElem_mem _
  have lb : ∀ n ∈ ([1, 2, 4, 8] : List Nat), 1 ≤ n ∧ n ≤ 8 := by decide
  obtain ⟨l1, l8⟩ := lb lanes lmem
  refine ⟨_, rfl, p, _, _, _, rfl, rfl, SqL.of upd_same, hat, ?_⟩
  generalize L2.upd H1 p (.lst [.int 1, .int 2, .int 4, .int 8]) = H2 at *
  refine ⟨(by show 0 ≤ sizeLine; decide), fun lf hlf => ?_⟩
  have nlf := S2.ne hlf
  have flf := B2.frs hlf
  refine ⟨_, rfl, l, 2, rfl, by decide, by decide, S2.upd nlf, fun tv H3 htv S3 B3 => ⟨_, _, rfl, rfl, ?_⟩⟩
  have h3 : H3 lf = some (.lst []) := B3 lf _ upd_same nlf.symm
  refine ⟨_, rfl, by lia, by lia, ?_⟩
  refine for_range (lo := 0) (n := (1 + ((tv : Nat) : Int)).toNat) (fun i σ H4 => (∃ w5 w6 w7 w8 w9 w10 w11, σ = [some (.ref l), some (.int 3), some (.int pw), some (.int lanes), some (.ref lf), w5, w6, w7, w8, w9, w10, w11]) ∧ PkAt H4 l ∧ But l H H4 ∧ ∃ ps fs, H4 lf = some (.lst ps) ∧ Prs H4 ps fs ∧ fs.length ≤ 27 * i ∧ ∀ f ∈ fs, f.1 < lanes ∧ f.2 < lanes ∧ f.1 ≠ f.2)
    ⟨⟨_, _, _, _, _, _, _, rfl⟩, S3, (B2.upd flf).trans B3, [], [], h3, trivial, Nat.le_refl _, fun f hf => by simp at hf⟩ ?_ ?_
  · rintro i σ H4 hi ⟨⟨w5, w6, w7, w8, w9, w10, w11, rfl⟩, S4, B4, ps, fs, h4, p4, len, fok⟩
    have i2 : i < 2 := by lia
    refine ⟨_, rfl, _, rfl, _, _, rfl, rfl, l, 4, rfl, by decide, by decide, S4, fun kv H5 hkv S5 B5 => ?_⟩
    refine ⟨_, rfl, _, _, rfl, rfl, .inr ⟨_, rfl, _, _, rfl, rfl, .inl ⟨by lia, by lia⟩, ?_⟩⟩
    have cb : ((kv : Int) * (if decide ((1 : Int) < lanes) = true then 1 else 0)) = ((if 1 < lanes then kv else 0 : Nat) : Int) := by
      by_cases z : 1 < lanes
      · rw [if_pos (decide_eq_true (by lia)), if_pos z]; lia
      · rw [if_neg (by rw [decide_eq_false (by lia)]; exact Bool.false_ne_true), if_neg z]; lia
    have cl : (if 1 < lanes then kv else 0) ≤ 3 := by split <;> lia
    refine ⟨_, rfl, by rw [cb]; lia, by rw [cb]; lia, ?_⟩
    rw [cb]
    generalize hcnt : (if 1 < lanes then kv else 0) = cnt at cl
    refine for_range (lo := 0) (n := ((cnt : Nat) : Int).toNat) (fun j σ H6 => (∃ w6 w7 w8 w9 w10 w11, σ = [some (.ref l), some (.int 3), some (.int pw), some (.int lanes), some (.ref lf), some (.int (0 + (i : Nat))), w6, w7, w8, w9, w10, w11]) ∧ PkAt H6 l ∧ But l H H6 ∧ ∃ ps fs, H6 lf = some (.lst ps) ∧ Prs H6 ps fs ∧ fs.length ≤ 27 * i + j ∧ ∀ f ∈ fs, f.1 < lanes ∧ f.2 < lanes ∧ f.1 ≠ f.2)
      ⟨⟨_, _, _, _, _, _, rfl⟩, S5, B4.trans B5, ps, fs, B5 lf _ h4 nlf.symm, p4.tups (B5.tups S4), len, fok⟩ ?_ ?_
    · rintro j σ H6 hj ⟨⟨w6, w7, w8, w9, w10, w11, rfl⟩, S6, B6, ps, fs, h6, p6, len, fok⟩
      have jc : j < cnt := by lia
      have l2 : 1 < lanes := by
        by_cases z : 1 < lanes
        · exact z
        · rw [if_neg z] at hcnt; lia
      refine ⟨_, rfl, _, rfl, l, lanes, rfl, by lia, by lia, S6, fun one H7 ho S7 B7 => ?_⟩
      have h7 := B7 lf _ h6 nlf.symm
      refine ⟨_, rfl, .inl ⟨rfl, _, SqL.of h7⟩, _, rfl, _, rfl, _, _, rfl, rfl, _, rfl, _, rfl, _, _, rfl, rfl, l, _, rfl, by lia, by lia, S7, fun d H8 hd S8 B8 => ?_⟩
      refine ⟨_, _, rfl, rfl, _, rfl, _, _, rfl, rfl, by lia, (by show 2 ≤ sizeLine; decide), fun t ht => ?_⟩
      obtain ⟨ok1, ok2⟩ := other_ok (one := one) (d := d) (lanes := lanes) (by lia) (by lia)
      have ec : ((one : Int) + 1 + d) % lanes = (((one + 1 + d) % lanes : Nat) : Int) := by rw [Int.natCast_emod, Int.natCast_add, Int.natCast_add]; rfl
      have st := same_new ht (.tup [.int one, .int (((one : Int) + 1 + d) % lanes)])
      have h9 := st _ _ (B8 lf _ h7 nlf.symm)
      have p9 := (p6.tups ((B7.tups S6).trans (B8.tups S7))).tups (Tups.of st)
      exact ⟨lf, _, _, rfl, rfl, h9, small_ps p9 (by lia), ⟨_, _, _, _, _, _, rfl⟩, add_fork (f' := (one, (one + 1 + d) % lanes)) nlf flf (S8.keep st) (((B6.trans B7).trans B8).trans (But.of st)) h9 p9 (by rw [← ec]; exact upd_same) fok ⟨by show one < lanes; lia, ok1, ok2⟩ (by lia)⟩
    rintro σ H6 ⟨⟨w6, w7, w8, w9, w10, w11, rfl⟩, S6, B6, ps, fs, h6, p6, len, fok⟩
    refine ⟨(by show 3 ≤ sizeLine; decide), fun p3 hp3 => ?_⟩
    have s7 := same_new hp3 (.lst [.int 1, .int 2, .int 4])
    refine ⟨_, rfl, _, rfl, p3, _, rfl, SqL.of upd_same, fun lw hlw => ?_⟩
    rw [cut_upto _ pw (by show pw ≤ 3; lia)]
    have s8 := s7.trans (same_new hlw (.lst (([.int 1, .int 2, .int 4] : List V).take pw)))
    have nlw := (S6.keep s7).ne hlw
    have nfw : lf ≠ lw := ne_of_none (s7 _ _ h6) hlw
    have flw := (B6.trans (But.of s7)).frs hlw
    refine ⟨fun m σ H9 => (∃ w6 w7 w9 w10 w11, σ = [some (.ref l), some (.int 3), some (.int pw), some (.int lanes), some (.ref lf), some (.int (0 + (i : Nat))), w6, w7, some (.ref lw), w9, w10, w11]) ∧ m ≤ 3 ∧ PkAt H9 l ∧ But l H H9 ∧ (∃ row : List Nat, row.length = m ∧ H9 lw = some (.lst (nums row)) ∧ ∀ x ∈ row, x ∈ ([1, 2, 4] : List Nat) ∧ x < lanes) ∧ ∃ ps fs, H9 lf = some (.lst ps) ∧ Prs H9 ps fs ∧ fs.length ≤ 27 * i + 3 + 8 * (3 - m) ∧ ∀ f ∈ fs, f.1 < lanes ∧ f.2 < lanes ∧ f.1 ≠ f.2,
      ⟨_, ⟨_, _, _, _, _, rfl⟩, ?_, S6.keep s8, B6.trans (But.of s8), ⟨([1, 2, 4] : List Nat).take pw, rfl, ?_, ?_⟩, ps, fs, s8 _ _ h6, p6.tups (Tups.of s8), by lia, fok⟩, ?_⟩
    · rw [List.length_take]; exact Nat.min_le_right _ _
    · rw [upd_same]; unfold nums; rw [List.map_take]; rfl
    · intro x hx
      have := row_ok pw pl4 x hx
      rw [elanes]; exact this
    rintro m σ H9 ⟨⟨w6, w7, w9, w10, w11, rfl⟩, m3, S9, B9, ⟨row, rl, hrow, rok⟩, ps, fs, h9, p9, len, fok⟩
    refine ⟨_, rfl, (by show 0 ≤ sizeLine; decide), fun e he => ?_⟩
    have s10 := same_new he (.lst [])
    refine ⟨lw, e, _, rfl, rfl, SqL.of (s10 _ _ hrow), SqL.of upd_same, _, rfl, ?_⟩
    generalize L2.upd H9 e (.lst []) = H10 at *
    have S10 := S9.keep s10
    have B10 : But l H H10 := B9.trans (But.of s10)
    have h10 := s10 _ _ h9
    have p10 := p9.tups (Tups.of s10)
    have hrow10 := s10 _ _ hrow
    by_cases rn : row = []
    · rw [show (!(nums row).isEmpty) = false by rw [rn]; rfl]
      exact iteF ⟨⟨_, _, _, _, _, _, _, rfl⟩, S10, B10, ps, fs, h10, p10, by lia, fok⟩
    have rp : 0 < row.length := List.length_pos_iff.mpr rn
    rw [show (!(nums row).isEmpty) = true by cases row with
      | nil => exact absurd rfl rn
      | cons a b => rfl]
    refine iteT ⟨_, fun σ' H' hN => ⟨m - 1, by lia, hN⟩, ?_⟩
    refine ⟨_, rfl, .inl ⟨rfl, _, SqL.of hrow10⟩, _, rfl, _, rfl, lw, _, rfl, .inl (SqL.of hrow10), l, _, rfl, by rw [nums_len]; lia, by rw [nums_len]; lia, S10, fun kk H11 hk S11 B11 => ?_⟩
    rw [nums_len] at hk
    have kl : kk < row.length := by lia
    have hrow11 := B11 lw _ hrow10 nlw.symm
    refine ⟨lw, _, _, kk, .int row[kk], rfl, rfl, hrow11, by lia, by lia, ?_, ?_, ?_⟩
    · exact (ixN_seq (ix_at (xs := nums row) (i := kk) (by rw [nums_len]; exact kl))).1
    · unfold nums; rw [List.getElem?_map, List.getElem?_eq_getElem kl]; rfl
    have rk := rok _ (List.getElem_mem kl)
    have fp : 1 ≤ row[kk] ∧ row[kk] ≤ 4 := by
      have : ∀ x ∈ ([1, 2, 4] : List Nat), 1 ≤ x ∧ x ≤ 4 := by decide
      exact this _ rk.1
    generalize hfar : row[kk] = far at *
    have T12 := (B11.tups S10).trans (Tups.lst (ys := (nums row).eraseIdx kk) hrow11)
    refine ⟨_, rfl, lanes, rfl, by lia, by lia, ?_⟩
    refine for_range (lo := 0) (n := ((lanes : Nat) : Int).toNat) (fun j σ H12 => (∃ w6 w7 w10 w11, σ = [some (.ref l), some (.int 3), some (.int pw), some (.int lanes), some (.ref lf), some (.int (0 + (i : Nat))), w6, w7, some (.ref lw), some (.int far), w10, w11]) ∧ H12 lw = some (.lst (nums (row.eraseIdx kk))) ∧ PkAt H12 l ∧ But l H H12 ∧ ∃ ps fs, H12 lf = some (.lst ps) ∧ Prs H12 ps fs ∧ fs.length ≤ 27 * i + 3 + 8 * (3 - m) + j ∧ ∀ f ∈ fs, f.1 < lanes ∧ f.2 < lanes ∧ f.1 ≠ f.2)
      ⟨⟨_, _, _, _, rfl⟩, by rw [upd_same, nums_erase], S11.upd nlw, (B10.trans B11).upd flw, ps, fs, by rw [upd_ne nfw]; exact B11 lf _ h10 nlf.symm, p10.tups T12, len, fok⟩ ?_ ?_
    · rintro j σ H12 hj ⟨⟨w6, w7, w10, w11, rfl⟩, hw12, S12, B12, ps, fs, h12, p12, len, fok⟩
      have jl : j < lanes := by lia
      rw [Int.zero_add]
      refine ⟨_, rfl, _, rfl, _, _, rfl, rfl, ⟨by lia, by lia⟩, _, _, rfl, rfl, (by show (0 : Int) < 2; decide), rfl, _, rfl, ?_⟩
      have ev : ((j : Int) / far % 2) = ((j / far % 2 : Nat) : Int) := by rw [Int.natCast_emod, Int.natCast_ediv]; rfl
      dsimp only
      by_cases z : j / far % 2 = 0
      · rw [show decide (V.int ((j : Int) / far % 2) = V.int 0) = true from decide_eq_true (by rw [ev, z]; rfl)]
        have fl := far_ok lanes lmem far rk.1 rk.2 j jl z
        refine iteT ⟨_, rfl, .inl ⟨rfl, _, SqL.of h12⟩, _, rfl, _, rfl, _, rfl, _, _, rfl, rfl, (by show 2 ≤ sizeLine; decide), fun t1 ht1 => ?_⟩
        have q1 := same_new ht1 (.tup [.int j, .int ((j : Int) + far)])
        refine ⟨_, rfl, _, rfl, _, _, rfl, rfl, _, rfl, (by show 2 ≤ sizeLine; decide), fun t2 ht2 => ?_⟩
        have q2 := same_new ht2 (.tup [.int ((j : Int) + far), .int j])
        refine ⟨(by show 2 ≤ sizeLine; decide), fun q hq => ?_⟩
        have q3 := same_new hq (.lst [.ref t1, .ref t2])
        have q123 := (q1.trans q2).trans q3
        have S13 := S12.keep q123
        have nq : q ≠ l := ((S12.keep (q1.trans q2)).ne hq).symm
        refine ⟨_, rfl, l, 4, rfl, by decide, by decide, S13, fun v H14 hv S14 B14 => ⟨_, _, rfl, rfl, ⟨by decide, by decide⟩, ?_⟩⟩
        have T14 := B14.tups S13
        have g1 := T14 _ _ (q3 _ _ (q2 _ _ (show L2.upd H12 t1 _ t1 = _ from upd_same)))
        have g2 := T14 _ _ (q3 _ _ (show L2.upd (L2.upd H12 t1 _) t2 _ t2 = _ from upd_same))
        have h14 := B14 lf _ (q123 _ _ h12) nlf.symm
        have w14 := B14 lw _ (q123 _ _ hw12) nlw.symm
        have p14 := (p12.tups (Tups.of q123)).tups T14
        have ev2 : ((v : Int) / 3) = ((v / 3 : Nat) : Int) := by rw [Int.natCast_ediv]; rfl
        obtain ⟨t', f2, hat4, e4, ok4⟩ : ∃ (t' : Addr) (f2 : Nat × Nat), atI [V.ref t1, V.ref t2] ((v : Int) / 3) = some (.ref t') ∧ H14 t' = some (.tup [.int f2.1, .int f2.2]) ∧ (f2.1 < lanes ∧ f2.2 < lanes ∧ f2.1 ≠ f2.2) := by
          rw [ev2]
          have v3 : v / 3 = 0 ∨ v / 3 = 1 := by lia
          rcases v3 with e | e
          · rw [e]; exact ⟨t1, (j, j + far), atI_nat rfl, g1, jl, fl, by show j ≠ j + far; lia⟩
          · rw [e]; exact ⟨t2, (j + far, j), atI_nat rfl, g2, fl, jl, by show j + far ≠ j; lia⟩
        have af := add_fork (m := 27 * i + 3 + 8 * (3 - m) + (j + 1)) nlf flf S14 ((B12.trans (But.of q123)).trans B14) h14 p14 e4 fok ok4 (by lia)
        exact ⟨q, _, _, _, rfl, rfl, SqL.of (B14 q _ upd_same nq), hat4, lf, _, _, rfl, rfl, h14, small_ps p14 (by lia), ⟨_, _, _, _, rfl⟩, by rw [upd_ne nfw.symm]; exact w14, af⟩
      · rw [show decide (V.int ((j : Int) / far % 2) = V.int 0) = false from decide_eq_false (by intro y; have := V.int.inj y; lia)]
        exact iteF ⟨⟨_, _, _, _, rfl⟩, hw12, S12, B12, ps, fs, h12, p12, by lia, fok⟩
    · rintro σ H12 ⟨⟨w6, w7, w10, w11, rfl⟩, hw12, S12, B12, ps, fs, h12, p12, len, fok⟩
      refine ⟨⟨_, _, _, _, _, rfl⟩, by lia, S12, B12, ⟨row.eraseIdx kk, ?_, hw12, fun x hx => rok x (List.mem_of_mem_eraseIdx hx)⟩, ps, fs, h12, p12, by lia, fok⟩
      rw [List.length_eraseIdx, if_pos kl]; lia
  rintro σ H4 ⟨⟨w5, w6, w7, w8, w9, w10, w11, rfl⟩, S4, B4, ps, fs, h4, p4, len, fok⟩
  have fl : fs.length ≤ 128 := by lia
  refine ⟨(by show 0 ≤ sizeLine; decide), fun le hle => ?_⟩
  have nle := S4.ne hle
  have nfe : lf ≠ le := ne_of_none h4 hle
  have fle := B4.frs hle
  refine ⟨_, rfl, lanes, rfl, by lia, by lia, for_range (lo := 0) (n := ((lanes : Nat) : Int).toNat) (fun i σ H5 => (∃ w10, σ = [some (.ref l), some (.int 3), some (.int pw), some (.int lanes), some (.ref lf), w5, w6, w7, w8, w9, w10, some (.ref le)]) ∧ PkAt H5 l ∧ But l H H5 ∧ H5 lf = some (.lst ps) ∧ Prs H5 ps fs ∧ ∃ es : List Nat, H5 le = some (.lst (nums es)) ∧ es.Perm (List.range i))
      ⟨⟨_, rfl⟩, S4.upd nle, B4.upd fle, by rw [upd_ne nfe]; exact h4, p4.tups (Tups.of (same_new hle _)), [], upd_same, .nil⟩ ?_ ?_⟩
  · rintro i σ H5 hi ⟨⟨w10, rfl⟩, S5, B5, h5, p5, es, h6, pe⟩
    have il : i < lanes := by lia
    have el : es.length = i := by rw [pe.length_eq, List.length_range]
    refine ⟨_, rfl, .inl ⟨rfl, _, SqL.of h6⟩, _, rfl, _, rfl, le, _, rfl, .inl (SqL.of h6), _, _, rfl, rfl, l, _, rfl, by lia, by rw [nums_len]; lia, S5, fun v H7 hv S7 B7 => ?_⟩
    have h7 := B7 le _ h6 nle.symm
    rw [nums_len] at hv
    refine ⟨_, rfl, le, _, _, v, rfl, rfl, h7, by rw [nums_len]; lia, by rw [nums_len]; lia, ⟨_, rfl⟩, S7.upd nle, (B5.trans B7).upd fle, ?_, ?_, es.take v ++ i :: es.drop v, ?_, ins_perm pe⟩
    · rw [upd_ne nfe]; exact B7 lf _ h5 nlf.symm
    · exact (p5.tups (B7.tups S5)).tups (Tups.lst h7)
    · rw [upd_same, Int.zero_add, nums_ins]
  rintro σ H5 ⟨⟨w10, rfl⟩, S5, B5, h5, p5, es, h6, pe⟩
  have pe' : es.Perm (List.range lanes) := by have e : ((lanes : Nat) : Int).toNat = lanes := by lia
                                              rw [e] at pe; exact pe
  refine ⟨_, rfl, _, rfl, lf, _, rfl, .inl ⟨SqL.of h5, fun fr hfr => ?_⟩⟩
  have s1 := same_new hfr (.tup ps)
  refine ⟨_, rfl, le, _, rfl, .inl ⟨SqL.of (s1 _ _ h6), fun e1 he1 => ?_⟩⟩
  have s2' := s1.trans (same_new he1 (.tup (nums es)))
  refine ⟨_, rfl, lanes, rfl, by lia, fun e2 he2 => ?_⟩
  have s3 := s2'.trans (same_new he2 (if false = true then HO.lst (upTo lanes) else .tup (upTo lanes)))
  refine ⟨(by show 2 ≤ sizeLine; decide), fun q hq => ?_⟩
  have s4 := s3.trans (same_new hq (.lst [.ref e1, .ref e2]))
  have B6 : But l H _ := B5.trans (But.of s4)
  refine ⟨_, rfl, l, 2, rfl, by decide, by decide, S5.keep s4, fun v H7 hv S7 B7 => ?_⟩
  have nq : q ≠ l := ((S5.keep s3).ne hq).symm
  have hq7 := B7 q _ upd_same nq
  have T7 := B7.tups (S5.keep s4)
  have g1 : H7 e1 = some (.tup (nums es)) := T7 _ _ ((((Tups.of (same_new he2 _)).trans (Tups.of (same_new hq _)))) _ _ upd_same)
  have g2 : H7 e2 = some (.tup (nums (List.range lanes))) := T7 _ _ ((Tups.of (same_new hq _)) _ _ upd_same)
  have g0 : H7 fr = some (.tup ps) := T7 _ _ ((((Tups.of (same_new he1 _)).trans (Tups.of (same_new he2 _))).trans (Tups.of (same_new hq _))) _ _ upd_same)
  have pr := (p5.tups (Tups.of s4)).tups T7
  obtain ⟨er, en, hat', hen, hpe⟩ : ∃ (er : Addr) (en : List Nat), atI [V.ref e1, V.ref e2] ((v : Nat) : Int) = some (.ref er) ∧ H7 er = some (.tup (nums en)) ∧ en.Perm (List.range lanes) := by
    have vl : v < 2 := by lia
    rcases v with _ | _ | v
    · exact ⟨e1, es, atI_nat rfl, g1, pe'⟩
    · exact ⟨e2, _, atI_nat rfl, g2, .refl _⟩
    · lia
  refine ⟨q, _, _, _, rfl, rfl, SqL.of hq7, hat', (by show 3 ≤ sizeLine; decide), fun r hr' => ?_⟩
  have s5 := same_new hr' (.tup [.int lanes, .ref fr, .ref er])
  exact k r fr er ps ⟨lanes, fs, en⟩ _ ⟨l1, by show lanes ≤ 16; lia, fl, fok, hpe⟩ ⟨upd_same, s5 _ _ g0, pr.tups (Tups.of s5), s5 _ _ hen⟩ (S7.keep s5) ((B6.trans B7).trans (But.of s5))
end
end K33
end
section
set_option maxHeartbeats 4000001
namespace K33
open PySem L2 Own Bn
abbrev sRen : Stmt := top 33
def spRen : Sp := fun vs H Q _ => ∃ r fr er ps N ln ns, vs = [.ref r, .ref ln] ∧ Nt.Ok N ∧ NetAt H r fr er ps N ∧ H ln = some (.lst (nums ns)) ∧ ns.Perm (List.range N.lanes) ∧
  ∀ r' fr' er' ps' H', Same H H' → NetAt H' r' fr' er' ps' (N.ren ns) → Q (.ref r') H'
section
variable {P : Program} {w : World} {K : PySem.W.Frag} {mg : Str → Option Value} {base : Heap}
theorem scR : FnScope ["_law_net_here", "_law_names", "_law_lanes", "_law_forks", "_law_ends"] ["_law_net_here", "_law_names"] (defScope sRen) := ⟨rfl, rfl, rfl, by decide +kernel, rfl, by decide +kernel, by decide +kernel⟩
theorem ok_ren {f : Addr} {fd : FuncData} (F : Fun K "_law_renamed" "_law_renamed" sRen f fd) (G : Mgs mg) : FnOk P w K mg base CX0 1 f fd ["_law_net_here", "_law_names"] spRen := by
  refine F.ok scR (fun vs H Q E h => ?_) (fun cdv A outer s H vs Q E hr h => ?_)
  · obtain ⟨r, fr, er, ps, N, ln, ns, rfl, _⟩ := h
    rfl
  obtain ⟨r, fr, er, ps, N, ln, ns, rfl, ok, na, hn, pm, k⟩ := h
  refine ⟨_, (@pss_cons _ _ _ _ _ (@ps_asg _ _ _ _ _ _ (@pv _ 0 _ _ (by rfl) (by first | exact Or.inl rfl | exact Or.inr (Or.inl rfl) | exact Or.inr (Or.inr rfl)) (by decide) (by decide)) (@pg_tup _ _ _ _ _ _ rfl (@pgs_cons _ _ _ _ _ (@pg_name _ _ 2 _ scR.nd rfl (Or.inl rfl) (by first | exact .inl rfl | exact .inr rfl | assumption)) (@pgs_cons _ _ _ _ _ (@pg_name _ _ 3 _ scR.nd rfl (Or.inl rfl) (by first | exact .inl rfl | exact .inr rfl | assumption)) (@pgs_cons _ _ _ _ _ (@pg_name _ _ 4 _ scR.nd rfl (Or.inl rfl) (by first | exact .inl rfl | exact .inr rfl | assumption)) pgs_nil (by rfl)) (by rfl)) (by rfl)) (by rfl) (by rfl)) (by rfl) (by rfl) (by rfl)) (@pss_one _ _ _ (@ps_ret _ _ _ _ (@pe_tup _ _ _ _ _ (@pa_cons _ _ _ _ _ (@pv _ 2 _ _ (by rfl) (by first | exact Or.inl rfl | exact Or.inr (Or.inl rfl) | exact Or.inr (Or.inr rfl)) (by decide) (by decide)) (@pa_cons _ _ _ _ _ (@pe_callTy _ _ _ _ _ _ _ _ _ call_tuple_of (by rfl) G.tuple (by rfl) (@pa_cons _ _ _ _ _ (@pe_lc _ _ _ _ none _ _ _ (gTup K 2 (gCons (gName 0) (gCons (gName 1) gNil))) _ _ ["_law_one", "_law_other", "_law_names"] [none, none, some 1] rfl (@pi_tup _ _ _ _ (@pv _ 3 _ _ (by rfl) (by first | exact Or.inl rfl | exact Or.inr (Or.inl rfl) | exact Or.inr (Or.inr rfl)) (by decide) (by decide))) (CapOk.of (by kernel_rfl)) (fun _ _ _ _ _ => (@pg_tup _ _ _ _ _ _ rfl (@pgs_cons _ _ _ _ _ (@pg_name _ _ 0 _ (show (["_law_one", "_law_other", "_law_names"] : List Str).Nodup from by decide +kernel) rfl (Or.inl rfl) (Or.inr rfl)) (@pgs_cons _ _ _ _ _ (@pg_name _ _ 1 _ (show (["_law_one", "_law_other", "_law_names"] : List Str).Nodup from by decide +kernel) rfl (Or.inl rfl) (Or.inr rfl)) pgs_nil (by rfl)) (by rfl)) (by rfl) (by rfl))) (fun _ _ _ _ _ => pt_none) (fun _ _ _ _ _ => (@pe_tup _ _ _ _ _ (@pa_cons _ _ _ _ _ (@pe_ix _ _ _ _ _ _ (rIxL K) ix_list (@pv _ 2 _ _ (by rfl) (by first | exact Or.inl rfl | exact Or.inr (Or.inl rfl) | exact Or.inr (Or.inr rfl)) (by decide) (by decide)) (@pv _ 0 _ _ (by rfl) (by first | exact Or.inl rfl | exact Or.inr (Or.inl rfl) | exact Or.inr (Or.inr rfl)) (by decide) (by decide)) (fun _ _ => rfl)) (@pa_cons _ _ _ _ _ (@pe_ix _ _ _ _ _ _ (rIxL K) ix_list (@pv _ 2 _ _ (by rfl) (by first | exact Or.inl rfl | exact Or.inr (Or.inl rfl) | exact Or.inr (Or.inr rfl)) (by decide) (by decide)) (@pv _ 1 _ _ (by rfl) (by first | exact Or.inl rfl | exact Or.inr (Or.inl rfl) | exact Or.inr (Or.inr rfl)) (by decide) (by decide)) (fun _ _ => rfl)) pa_nil (by rfl)) (by rfl)))) (by intro _; rfl)) pa_nil (by rfl)) (by decide) (by decide) (by rfl) (by rfl)) (@pa_cons _ _ _ _ _ (@pe_callTy _ _ _ _ _ _ _ _ _ call_tuple_of (by rfl) G.tuple (by rfl) (@pa_cons _ _ _ _ _ (@pe_lc _ _ _ _ none _ _ _ _ _ _ ["_law_lane", "_law_names"] [none, some 1] rfl (@pi_tup _ _ _ _ (@pv _ 4 _ _ (by rfl) (by first | exact Or.inl rfl | exact Or.inr (Or.inl rfl) | exact Or.inr (Or.inr rfl)) (by decide) (by decide))) (CapOk.of (by kernel_rfl)) (fun _ _ _ _ _ => (@pg_name _ _ 0 _ (show (["_law_lane", "_law_names"] : List Str).Nodup from by decide +kernel) rfl (Or.inl rfl) (Or.inr rfl))) (fun _ _ _ _ _ => pt_none) (fun _ _ _ _ _ => (@pe_ix _ _ _ _ _ _ (rIxL K) ix_list (@pv _ 1 _ _ (by rfl) (by first | exact Or.inl rfl | exact Or.inr (Or.inl rfl) | exact Or.inr (Or.inr rfl)) (by decide) (by decide)) (@pv _ 0 _ _ (by rfl) (by first | exact Or.inl rfl | exact Or.inr (Or.inl rfl) | exact Or.inr (Or.inr rfl)) (by decide) (by decide)) (fun _ _ => rfl))) (by intro _; rfl)) pa_nil (by rfl)) (by decide) (by decide) (by rfl) (by rfl)) pa_nil (by rfl)) (by rfl)) (by rfl)))))), ?_⟩
  have nl := nm_len pm
  have fm := ok.fm
  have l16 := ok.l16
  refine ⟨_, rfl, r, _, rfl, SqT.of na.net, rfl, _, _, rfl, _, _, rfl, _, _, rfl, rfl, ?_⟩
  refine ⟨_, rfl, _, rfl, fr, rfl, ⟨_, SqT.of na.forks⟩, fun l hl => ?_⟩
  have lnl : ln ≠ l := ne_of_none hn hl
  refine lc_tup (K := K) (a := fr) (xs := ps) (fun i acc σ H2 => (∃ v u, σ = [v, u, some (.ref ln)]) ∧ Same H H2 ∧ H2 l = some (.lst acc) ∧ Prs H2 acc ((N.forks.take i).map (ren ns))) ⟨⟨_, _, rfl⟩, same_new hl _, upd_same, trivial⟩ (fun i acc σ H2 q => ⟨q.2.2.1, SqT.of (q.2.1 _ _ na.forks)⟩) ?_ ?_
  · rintro i x acc σ H2 hx ⟨⟨v, u, rfl⟩, s2, h2, pr⟩
    have il : i < ps.length := (List.getElem?_eq_some_iff.mp hx).1
    obtain ⟨a, g, rfl, eg, ha⟩ := (na.prs.tups (Tups.of s2)).get hx
    have okg := ok.fk g (List.mem_of_getElem? eg)
    have n2 := s2 _ _ hn
    have ig : i < N.forks.length := (List.getElem?_eq_some_iff.mp eg).1
    refine ⟨a, _, rfl, SqT.of ha, rfl, _, _, rfl, _, _, rfl, rfl, ?_⟩
    refine ⟨_, rfl, _, rfl, ln, _, _, _, rfl, rfl, SqL.of n2, at_nums (by lia), ?_⟩
    refine ⟨_, rfl, _, rfl, ln, _, _, _, rfl, rfl, SqL.of n2, at_nums (by lia), ?_⟩
    refine ⟨(by show 2 ≤ sizeLine; decide), fun p hp => ?_⟩
    have sp := same_new hp (.tup [.int (ns[g.1]'(by lia)), .int (ns[g.2]'(by lia))])
    have al := pr.len
    rw [List.length_map, List.length_take] at al
    have h3 := sp _ _ h2
    refine ⟨h3, ?_, nx il ⟨⟨_, _, rfl⟩, fun b o e => ?_, upd_same, ?_⟩⟩
    · exact Nat.lt_of_lt_of_le (show acc.length < 1000 by lia) (by decide)
    · rw [upd_ne (ne_of_none e hl)]; exact sp _ _ (s2 b o e)
    · have w2 := (List.getElem?_eq_some_iff.mp eg).2
      rw [List.take_succ_eq_append_getElem ig, w2, List.map_append]
      refine Prs.add (f := ren ns g) ?_ ((pr.tups (Tups.of sp)).tups (Tups.lst h3))
      refine Tups.lst h3 _ _ ?_
      rw [upd_same, nm_get, nm_get]; rfl
  rintro acc σ H2 ⟨⟨v, u, rfl⟩, s2, h2, pr⟩
  rw [na.prs.len, List.take_length] at pr
  refine ⟨l, _, rfl, .inl ⟨SqL.of h2, fun fr' hfr => ?_⟩⟩
  have s3 := s2.trans (same_new hfr (.tup acc))
  have pr3 := pr.tups (Tups.of (same_new hfr (.tup acc)))
  refine ⟨_, rfl, er, rfl, ⟨_, SqT.of (s3 _ _ na.ends)⟩, fun l2 hl2 => ?_⟩
  have hr3 : upd H2 fr' (.tup acc) fr' = some (.tup acc) := upd_same
  generalize upd H2 fr' (.tup acc) = H3 at *
  refine lc_tup (K := K) (a := er) (xs := nums N.ends) (fun i acc σ H4 => (∃ v, σ = [v, some (.ref ln)]) ∧ Same H3 H4 ∧ H4 l2 = some (.lst acc) ∧ acc = nums ((N.ends.take i).map (nm ns))) ⟨⟨_, rfl⟩, same_new hl2 _, upd_same, rfl⟩ (fun i acc σ H4 q => ⟨q.2.2.1, SqT.of (q.2.1 _ _ (s3 _ _ na.ends))⟩) ?_ ?_
  · rintro i x acc σ H4 hx ⟨⟨v, rfl⟩, s4, h4, rfl⟩
    have il : i < N.ends.length := by have := (List.getElem?_eq_some_iff.mp hx).1; rwa [nums_len] at this
    have ex : x = .int N.ends[i] := by
      unfold nums at hx
      rw [List.getElem?_map, List.getElem?_eq_getElem il] at hx; exact (Option.some.inj hx).symm
    subst ex
    have lt' := ends_lt ok (List.getElem_mem il)
    have el := ends_len ok
    refine ⟨_, rfl, _, rfl, ln, _, _, _, rfl, rfl, SqL.of (s4 _ _ (s3 _ _ hn)), at_nums (by lia), h4, ?_, nx (by rw [nums_len]; exact il) ⟨⟨_, rfl⟩, fun b o e => ?_, upd_same, ?_⟩⟩
    · rw [nums_len, List.length_map, List.length_take]; exact Nat.lt_of_le_of_lt (Nat.min_le_left _ _) (Nat.lt_of_lt_of_le (show i < 1000 by lia) (by decide))
    · rw [upd_ne (ne_of_none e hl2)]; exact s4 b o e
    · rw [List.take_succ_eq_append_getElem il, List.map_append, nm_get]
      unfold nums
      rw [List.map_append]; rfl
  rintro acc2 σ H4 ⟨⟨v, rfl⟩, s4, h4, rfl⟩
  rw [nums_len, List.take_length] at h4
  refine ⟨l2, _, rfl, .inl ⟨SqL.of h4, fun er' her => ?_⟩⟩
  have s5 := same_new her (.tup (nums (N.ends.map (nm ns))))
  refine ⟨(by show 3 ≤ sizeLine; decide), fun r' hr' => ?_⟩
  have s6 := same_new hr' (.tup [.int N.lanes, .ref fr', .ref er'])
  refine k r' fr' er' acc _ (((s3.trans s4).trans s5).trans s6) ⟨upd_same, ?_, ?_, ?_⟩
  · exact s6 _ _ (s5 _ _ (s4 _ _ hr3))
  · exact pr3.tups (Tups.of ((s4.trans s5).trans s6))
  · exact s6 _ _ upd_same
end
end K33
end
section
set_option maxHeartbeats 4000001
namespace K33
open PySem L2 Own Bn
abbrev sBlock : Stmt := top 23
abbrev sRounds : Stmt := top 17
def spBlock (m : Nat) : Sp := fun vs H Q _ => ∃ p row, vs = [.ref p] ∧ H p = some (.lst (nums row)) ∧ row.length ≤ 2 ^ m ∧ row.length ≤ 1000 ∧ m ≤ 20 ∧ ∀ l ps H', Same H H' → H' l = some (.lst ps) → Prs H' ps (blockN m row) → Q (.ref l) H'
def spRounds : Sp := fun vs H Q _ => ∃ k : Nat, vs = [.int k] ∧ k < 4 ∧ ∀ r' fr' er' ps' H', Same H H' → NetAt H' r' fr' er' ps' (dueN k) → Q (.ref r') H'
theorem cut_take (row : List Nat) (i : Nat) (h : i ≤ row.length) : cutV (nums row) none (some (i : Int)) = nums (row.take i) := by
  rw [cut_upto _ _ (by rw [nums_len]; exact h)]
  unfold nums
  rw [List.map_take]
theorem cut_drop (row : List Nat) (i : Nat) (h : i ≤ row.length) : cutV (nums row) (some (i : Int)) none = nums (row.drop i) := by
  rw [cut_from _ _ (by rw [nums_len]; exact h)]
  unfold nums
  rw [List.map_drop]
section
variable {P : Program} {w : World} {K : PySem.W.Frag} {mg : Str → Option Value} {base : Heap}
theorem scBk : FnScope ["row", "half"] ["row"] (defScope sBlock) := ⟨rfl, rfl, rfl, by decide +kernel, rfl, by decide +kernel, by decide +kernel⟩
theorem ok_block1 {f : Addr} {fd : FuncData} (F : Fun K "block_of" "block_of" sBlock f fd) (G : Mgs mg) (bS : Binds K fd ["row"] []) (mS : mg "block_of" = some (.ref f)) (n : Nat)
    (GS : FnOk P w K mg base CX0 n f fd ["row"] (fun vs H Q E => ∃ m, n = m + 1 ∧ spBlock m vs H Q E)) : FnOk P w K mg base CX0 (n + 1) f fd ["row"] (spBlock n) := by
  have UB : Use P w K mg base "block_of" ["row"] n (fun vs H Q E => ∃ m, n = m + 1 ∧ spBlock m vs H Q E) f fd := ⟨GS, bS, F.kp, mS⟩
  refine F.ok scBk (fun vs H Q E h => ?_) (fun cdv A outer s H vs Q E hr h => ?_)
  · obtain ⟨p, row, rfl, _⟩ := h
    rfl
  obtain ⟨p, row, rfl, hp, rl, r1000, n20, k⟩ := h
  refine ⟨_, (@pss_cons _ _ _ _ _ (@ps_if _ _ _ _ _ _ _ _ (@pt_cmpR _ _ _ _ _ _ _ _ op_lt (@pe_callB _ _ _ _ _ _ _ _ _ call_len_seq (by rfl) G.len PySem.boot_len (@pa_cons _ _ _ _ _ (@pv _ 0 _ _ (by rfl) (by first | exact Or.inl rfl | exact Or.inr (Or.inl rfl) | exact Or.inr (Or.inr rfl)) (by decide) (by decide)) pa_nil (by rfl)) (by decide) (by decide) (by rfl) (by rfl)) pe_int (nomark _)) (@pss_one _ _ _ (@ps_ret _ _ _ _ (@pe_lst _ _ _ _ pa_nil))) pss_nil) (@pss_cons _ _ _ _ _ (@ps_set _ _ 1 _ _ _ _ scBk.nd rfl (Or.inl rfl) (@pe_op _ _ _ _ _ _ _ _ op_fdiv (@pe_callB _ _ _ _ _ _ _ _ _ call_len_seq (by rfl) G.len PySem.boot_len (@pa_cons _ _ _ _ _ (@pv _ 0 _ _ (by rfl) (by first | exact Or.inl rfl | exact Or.inr (Or.inl rfl) | exact Or.inr (Or.inr rfl)) (by decide) (by decide)) pa_nil (by rfl)) (by decide) (by decide) (by rfl) (by rfl)) pe_int) (by rfl) (by first | exact .inl rfl | exact .inr rfl | assumption)) (@pss_one _ _ _ (@ps_ret _ _ _ _ (@pe_op _ _ _ _ _ _ _ _ op_cat (@pe_op _ _ _ _ _ _ _ _ op_cat (@pe_lstZip _ _ _ _ _ _ _ _ true true (by rfl) G.list (by rfl) G.zip rfl (@pa_cons _ _ _ _ _ (@pe_slice _ _ _ _ _ _ _ _ _ _ sl_list (@pv _ 0 _ _ (by rfl) (by first | exact Or.inl rfl | exact Or.inr (Or.inl rfl) | exact Or.inr (Or.inr rfl)) (by decide) (by decide)) po_none (@po_some _ _ _ (@pv _ 1 _ _ (by rfl) (by first | exact Or.inl rfl | exact Or.inr (Or.inl rfl) | exact Or.inr (Or.inr rfl)) (by decide) (by decide)))) (@pa_cons _ _ _ _ _ (@pe_rev _ _ _ _ _ _ _ (@pv _ 0 _ _ (by rfl) (by first | exact Or.inl rfl | exact Or.inr (Or.inl rfl) | exact Or.inr (Or.inr rfl)) (by decide) (by decide)) (@po_some _ _ _ (@pe_un _ _ _ _ _ _ un_neg pe_int))) pa_nil (by rfl)) (by rfl)) (by rfl) (by rfl) (by rfl)) (@pe_call _ _ _ _ _ _ _ _ _ _ _ _ _ _ _ _ UB.ok hr (by rfl) UB.m UB.kp UB.b .nil pass0 (@pa_cons _ _ _ _ _ (@pe_slice _ _ _ _ _ _ _ _ _ _ sl_list (@pv _ 0 _ _ (by rfl) (by first | exact Or.inl rfl | exact Or.inr (Or.inl rfl) | exact Or.inr (Or.inr rfl)) (by decide) (by decide)) po_none (@po_some _ _ _ (@pv _ 1 _ _ (by rfl) (by first | exact Or.inl rfl | exact Or.inr (Or.inl rfl) | exact Or.inr (Or.inr rfl)) (by decide) (by decide)))) pa_nil (by rfl)) (by decide) (by rfl) (by rfl))) (@pe_call _ _ _ _ _ _ _ _ _ _ _ _ _ _ _ _ UB.ok hr (by rfl) UB.m UB.kp UB.b .nil pass0 (@pa_cons _ _ _ _ _ (@pe_slice _ _ _ _ _ _ _ _ _ _ sl_list (@pv _ 0 _ _ (by rfl) (by first | exact Or.inl rfl | exact Or.inr (Or.inl rfl) | exact Or.inr (Or.inr rfl)) (by decide) (by decide)) (@po_some _ _ _ (@pv _ 1 _ _ (by rfl) (by first | exact Or.inl rfl | exact Or.inr (Or.inl rfl) | exact Or.inr (Or.inr rfl)) (by decide) (by decide))) po_none) pa_nil (by rfl)) (by decide) (by rfl) (by rfl))))))), ?_⟩
  have nl := nums_len row
  refine ⟨_, rfl, p, _, rfl, .inl (SqL.of hp), _, _, rfl, rfl, _, rfl, ?_⟩
  by_cases c : row.length < 2
  · rw [decide_eq_true (show (((nums row).length : Nat) : Int) < 2 by lia)]
    refine iteT ⟨(by show 0 ≤ sizeLine; decide), fun l hl => k l [] _ (same_new hl _) (atNew hl _) ?_⟩
    have e : blockN n row = [] := by
      cases n with
      | zero => rfl
      | succ m => unfold blockN; rw [if_pos c]
    rw [e]; trivial
  rw [decide_eq_false (show ¬(((nums row).length : Nat) : Int) < 2 by lia)]
  obtain ⟨m, rfl⟩ : ∃ m, n = m + 1 := by
    cases n with
    | zero => rw [show 2 ^ 0 = 1 from rfl] at rl; lia
    | succ m => exact ⟨m, rfl⟩
  rw [Nat.pow_succ] at rl
  refine iteF ⟨_, rfl, p, _, rfl, .inl (SqL.of hp), _, _, rfl, rfl, ⟨by decide, by decide⟩, ?_⟩
  have eh : (((nums row).length : Nat) : Int) / 2 = ((row.length / 2 : Nat) : Int) := by rw [nl]; lia
  simp only [eh]
  have hh : row.length / 2 ≤ row.length := by lia
  refine ⟨_, rfl, _, rfl, _, rfl, p, _, rfl, SqL.of hp, fun p1 hp1 => ?_⟩
  rw [cut_take row _ hh]
  have s1 := same_new hp1 (.lst (nums (row.take (row.length / 2))))
  refine ⟨_, rfl, _, rfl, _, rfl, rfl, p, _, rfl, SqL.of (s1 _ _ hp), fun p2 hp2 => ?_⟩
  have er : (nums row).reverse = nums row.reverse := by unfold nums; rw [List.map_reverse]
  rw [er]
  have s2 := same_new hp2 (.lst (nums row.reverse))
  refine ⟨p1, p2, _, _, rfl, SqL.of (s2 _ _ (atNew hp1 _)), SqL.of (atNew hp2 _), by rw [nums_len, nums_len, List.length_take, List.length_reverse]; lia, by rw [nums_len, List.length_take]; lia, fun lz ts H2 s3 n1 n2 z => ?_⟩
  have pz := prs_zip z (by rw [List.length_take, List.length_reverse]; lia)
  have s4 := same_new n2 (.lst ts)
  have u4 := ((s1.trans s2).trans s3).trans s4
  have pz4 := pz.tups (Tups.of s4)
  have hz4 := atNew n2 (.lst ts)
  have tl := pz.len
  rw [List.length_zip, List.length_take, List.length_reverse] at tl
  generalize upd H2 lz (.lst ts) = H4 at s4 u4 pz4 hz4
  have hp4 := u4 _ _ hp
  refine ⟨_, rfl, _, rfl, _, rfl, p, _, rfl, SqL.of hp4, fun p5 hp5 => ?_⟩
  rw [cut_take row _ hh]
  have s5 := same_new hp5 (.lst (nums (row.take (row.length / 2))))
  refine ⟨m, rfl, p5, row.take (row.length / 2), rfl, atNew hp5 _, by rw [List.length_take]; lia, by rw [List.length_take]; lia, by lia, fun l6 ps6 H6 s6 h6 pr6 => ?_⟩
  have u6 := s5.trans s6
  have b6 := block_len m (row.take (row.length / 2))
  rw [List.length_take] at b6
  have b6' : m * min (row.length / 2) row.length ≤ 20 * 1000 := Nat.mul_le_mul (by lia) (by lia)
  have pl6 := pr6.len
  refine ⟨lz, l6, _, _, rfl, rfl, u6 _ _ hz4, h6, by rw [sizeLine_eq]; lia, fun l7 hl7 => ?_⟩
  have s7 := same_new hl7 (.lst (ts ++ ps6))
  have pr7 := (Prs.app (pz4.tups (Tups.of u6)) pr6).tups (Tups.of s7)
  have h7 := atNew hl7 (.lst (ts ++ ps6))
  have u7 := u4.trans (u6.trans s7)
  generalize upd H6 l7 _ = H7 at s7 pr7 h7 u7
  have hp7 := u7 _ _ hp
  refine ⟨_, rfl, _, rfl, _, rfl, p, _, rfl, SqL.of hp7, fun p8 hp8 => ?_⟩
  rw [cut_drop row _ hh]
  have s8 := same_new hp8 (.lst (nums (row.drop (row.length / 2))))
  refine ⟨m, rfl, p8, row.drop (row.length / 2), rfl, atNew hp8 _, by rw [List.length_drop]; lia, by rw [List.length_drop]; lia, by lia, fun l9 ps9 H9 s9 h9 pr9 => ?_⟩
  have u9 := s8.trans s9
  have b9 := block_len m (row.drop (row.length / 2))
  rw [List.length_drop] at b9
  have b9' : m * (row.length - row.length / 2) ≤ 20 * 1000 := Nat.mul_le_mul (by lia) (by lia)
  have pl9 := pr9.len
  refine ⟨l7, l9, _, _, rfl, rfl, u9 _ _ h7, h9, by rw [List.length_append, sizeLine_eq]; lia, fun l10 hl10 => ?_⟩
  have s10 := same_new hl10 (.lst ((ts ++ ps6) ++ ps9))
  have pr10 := (Prs.app (pr7.tups (Tups.of u9)) pr9).tups (Tups.of s10)
  refine k l10 _ _ (u7.trans (u9.trans s10)) (atNew hl10 _) ?_
  have e : blockN (m + 1) row = (row.take (row.length / 2)).zip row.reverse ++ blockN m (row.take (row.length / 2)) ++ blockN m (row.drop (row.length / 2)) := by
    conv => lhs; unfold blockN
    rw [if_neg c]
  rw [e]; exact pr10
theorem ok_block {f : Addr} {fd : FuncData} (F : Fun K "block_of" "block_of" sBlock f fd) (G : Mgs mg) (bS : Binds K fd ["row"] []) (mS : mg "block_of" = some (.ref f)) : ∀ n : Nat, FnOk P w K mg base CX0 (n + 1) f fd ["row"] (spBlock n)
  | 0 => ok_block1 F G bS mS 0 ⟨fun vs H Q E ⟨m, h, _⟩ => by lia, fun A outer s H args us vs Q E _ _ _ _ ⟨m, h, _⟩ => by lia⟩
  | m + 1 => ok_block1 F G bS mS (m + 1) ((ok_block F G bS mS m).imp fun vs H Q E ⟨m', h, q⟩ => by cases h; exact q)
theorem block_same : ∀ k, k < 5 → blockN 4 (List.range (2 ^ k)) = blockN k (List.range (2 ^ k)) := by decide +kernel
theorem prs_rep {H : Hp} {ps : List V} {fs : List Fk} (h : Prs H ps fs) : ∀ n : Nat, Prs H (List.replicate n ps).flatten (List.replicate n fs).flatten
  | 0 => trivial
  | n + 1 => by
    rw [List.replicate_succ, List.replicate_succ, List.flatten_cons, List.flatten_cons]
    exact Prs.app h (prs_rep h n)
theorem scRd : FnScope ["k", "row"] ["k"] (defScope sRounds) := ⟨rfl, rfl, rfl, by decide +kernel, rfl, by decide +kernel, by decide +kernel⟩
theorem ok_rounds {f fR fB fM : Addr} {fd dR dB dM : FuncData} (F : Fun K "rounds" "rounds" sRounds f fd) (UR : Use P w K mg base "row_of" ["k"] 2 spRowOf fR dR) (UB : Use P w K mg base "block_of" ["row"] 5 (spBlock 4) fB dB) (UM : Use P w K mg base "net_of" ["row", "made"] 3 spMadeNet fM dM) : FnOk P w K mg base CX0 6 f fd ["k"] spRounds := by
  refine F.ok scRd (fun vs H Q E h => ?_) (fun cdv A outer s H vs Q E hr h => ?_)
  · obtain ⟨k, rfl, _⟩ := h
    rfl
  obtain ⟨k, rfl, k5, q⟩ := h
  have hr2 : Room 2 _ := hr.mono (by decide)
  have hr3 : Room 3 _ := hr.mono (by decide)
  refine ⟨_, (@pss_cons _ _ _ _ _ (@ps_set _ _ 1 _ _ _ _ scRd.nd rfl (Or.inl rfl) (@pe_call _ _ _ _ _ _ _ _ _ _ _ _ _ _ _ _ UR.ok hr2 (by rfl) UR.m UR.kp UR.b .nil pass0 (@pa_cons _ _ _ _ _ (@pv _ 0 _ _ (by rfl) (by first | exact Or.inl rfl | exact Or.inr (Or.inl rfl) | exact Or.inr (Or.inr rfl)) (by decide) (by decide)) pa_nil (by rfl)) (by decide) (by rfl) (by rfl)) (by rfl) (by first | exact .inl rfl | exact .inr rfl | assumption)) (@pss_one _ _ _ (@ps_ret _ _ _ _ (@pe_call _ _ _ _ _ _ _ _ _ _ _ _ _ _ _ _ UM.ok hr3 (by rfl) UM.m UM.kp UM.b .nil pass0 (@pa_cons _ _ _ _ _ (@pv _ 1 _ _ (by rfl) (by first | exact Or.inl rfl | exact Or.inr (Or.inl rfl) | exact Or.inr (Or.inr rfl)) (by decide) (by decide)) (@pa_cons _ _ _ _ _ (@pe_tup _ _ _ _ _ (@pa_cons _ _ _ _ _ (@pe_op _ _ _ _ _ _ _ _ op_rep (@pe_call _ _ _ _ _ _ _ _ _ _ _ _ _ _ _ _ UB.ok hr (by rfl) UB.m UB.kp UB.b .nil pass0 (@pa_cons _ _ _ _ _ (@pv _ 1 _ _ (by rfl) (by first | exact Or.inl rfl | exact Or.inr (Or.inl rfl) | exact Or.inr (Or.inr rfl)) (by decide) (by decide)) pa_nil (by rfl)) (by decide) (by rfl) (by rfl)) (@pv _ 0 _ _ (by rfl) (by first | exact Or.inl rfl | exact Or.inr (Or.inl rfl) | exact Or.inr (Or.inr rfl)) (by decide) (by decide))) (@pa_cons _ _ _ _ _ (@pv _ 1 _ _ (by rfl) (by first | exact Or.inl rfl | exact Or.inr (Or.inl rfl) | exact Or.inr (Or.inr rfl)) (by decide) (by decide)) pa_nil (by rfl)) (by rfl))) pa_nil (by rfl)) (by rfl)) (by decide) (by rfl) (by rfl))))), ?_⟩
  have p16 : 2 ^ k ≤ 2 ^ 4 := Nat.pow_le_pow_right (by decide) (by lia)
  refine ⟨_, rfl, k, rfl, by lia, fun p hp => ?_⟩
  have s1 := same_new hp (.lst (nums (List.range (2 ^ k))))
  refine ⟨_, rfl, _, rfl, p, List.range (2 ^ k), rfl, atNew hp _, by rw [List.length_range]; exact p16, by rw [List.length_range]; exact Nat.le_trans p16 (by decide), by decide, fun l ps H2 s2 hl pr => ?_⟩
  rw [block_same k (by lia)] at pr
  have pl := pr.len
  have bl := block_len k (List.range (2 ^ k))
  rw [List.length_range] at bl
  have b2 : k * 2 ^ k ≤ 4 * 2 ^ 4 := Nat.mul_le_mul (by lia) p16
  have b3 : ps.length * k ≤ (4 * 2 ^ 4) * 4 := Nat.mul_le_mul (by lia) (by lia)
  refine ⟨_, rfl, l, k, ps, rfl, rfl, hl, by lia, by lia, by rw [Int.toNat_natCast, sizeLine_eq]; lia, fun l2 hl2 => ?_⟩
  rw [Int.toNat_natCast]
  have s3 := same_new hl2 (.lst (List.replicate k ps).flatten)
  refine ⟨_, rfl, (by show 2 ≤ sizeLine; decide), fun c hc => ?_⟩
  have s4 := same_new hc (.tup [.ref l2, .ref p])
  have hp4 := s4 _ _ (s3 _ _ (s2 _ _ (atNew hp (.lst (nums (List.range (2 ^ k)))))))
  have okr := rounds_ok (k := k) (by lia)
  have eN : (⟨(List.range (2 ^ k)).length, (List.replicate k (blockN k (List.range (2 ^ k)))).flatten, List.range (2 ^ k)⟩ : Nt) = roundsN k := by rw [List.length_range]; rfl
  refine ⟨p, c, l2, p, _, _, List.range (2 ^ k), List.range (2 ^ k), rfl, hp4, atNew hc _, s4 _ _ (atNew hl2 _), (prs_rep pr k).tups (Tups.of (s3.trans s4)), hp4, ⟨by rw [eN]; exact okr, (few_ways k k5).2.2.1⟩, fun r' fr' er' ps' H' s' n' => ?_⟩
  rw [eN, rounds_due (k := k) (by lia)] at n'
  exact q r' fr' er' ps' H' ((((s1.trans s2).trans s3).trans s4).trans s') n'
end
end K33
end
section
set_option maxHeartbeats 4000001
namespace K33
open PySem L2 Own Bn
abbrev sBy : Stmt := top 25
def spBy : Sp := fun vs H Q _ => ∃ p1 p2 xs ys, vs = [.ref p1, .ref p2] ∧ H p1 = some (.lst xs) ∧ H p2 = some (.lst ys) ∧ xs.length = ys.length ∧ xs.length ≤ 1000 ∧ ∀ l H', Same H H' → H' l = some (.lst (turnsV xs ys)) → Q (.ref l) H'
theorem turns_next {α : Type} (xs ys : List α) (i : Nat) (x y : α) (hx : xs[i]? = some x) (hy : ys[i]? = some y) : turnsV (xs.take (i + 1)) (ys.take (i + 1)) = turnsV (xs.take i) (ys.take i) ++ [x, y] := by
  obtain ⟨ix, ex⟩ := List.getElem?_eq_some_iff.mp hx
  obtain ⟨iy, ey⟩ := List.getElem?_eq_some_iff.mp hy
  rw [List.take_succ_eq_append_getElem ix, List.take_succ_eq_append_getElem iy, ex, ey]
  unfold turnsV
  rw [List.zip_append (by rw [List.length_take, List.length_take]; lia), List.flatMap_append]
  rfl
section
variable {P : Program} {w : World} {K : PySem.W.Frag} {mg : Str → Option Value} {base : Heap}
theorem scBt : FnScope ["one", "other"] ["one", "other"] (defScope sBy) := ⟨rfl, rfl, rfl, by decide +kernel, rfl, by decide +kernel, by decide +kernel⟩
theorem ok_by {f : Addr} {fd : FuncData} (F : Fun K "by_turns" "by_turns" sBy f fd) (G : Mgs mg) : FnOk P w K mg base CX0 1 f fd ["one", "other"] spBy := by
  refine F.ok scBt (fun vs H Q E h => ?_) (fun cdv A outer s H vs Q E hr h => ?_)
  · obtain ⟨p1, p2, xs, ys, rfl, _⟩ := h
    rfl
  obtain ⟨p1, p2, xs, ys, rfl, h1, h2, hxy, hz, k⟩ := h
  refine ⟨_, (@pss_one _ _ _ (@ps_ret _ _ _ _ (@pe_lc2 _ _ _ _ _ _ none _ _ _ (iTup K (tVar 0)) _ _ _ _ ["pair", "thing"] [none, none] rfl (@pi_zipA _ _ _ _ _ _ _ _ true true rfl G.zip (@pa_cons _ _ _ _ _ (@pv _ 0 _ _ (by rfl) (by first | exact Or.inl rfl | exact Or.inr (Or.inl rfl) | exact Or.inr (Or.inr rfl)) (by decide) (by decide)) (@pa_cons _ _ _ _ _ (@pv _ 1 _ _ (by rfl) (by first | exact Or.inl rfl | exact Or.inr (Or.inl rfl) | exact Or.inr (Or.inr rfl)) (by decide) (by decide)) pa_nil (by rfl)) (by rfl)) (by rfl) (by rfl)) (CapOk.of (by kernel_rfl)) (fun _ _ _ _ _ => (@pg_name _ _ 0 _ (show (["pair", "thing"] : List Str).Nodup from by decide +kernel) rfl (Or.inl rfl) (Or.inr rfl))) (fun _ _ _ _ _ => (@pi_tup _ _ _ _ (@pv _ 0 _ _ (by rfl) (by first | exact Or.inl rfl | exact Or.inr (Or.inl rfl) | exact Or.inr (Or.inr rfl)) (by decide) (by decide)))) (fun _ _ _ _ _ => (@pg_name _ _ 1 _ (show (["pair", "thing"] : List Str).Nodup from by decide +kernel) rfl (Or.inl rfl) (Or.inr rfl))) (fun _ _ _ _ _ => pt_none) (fun _ _ _ _ _ => (@pv _ 1 _ _ (by rfl) (by first | exact Or.inl rfl | exact Or.inr (Or.inl rfl) | exact Or.inr (Or.inr rfl)) (by decide) (by decide))) (by intro _; rfl) (by intro _ _; rfl)))), ?_⟩
  refine ⟨_, rfl, _, rfl, p1, p2, xs, ys, rfl, SqL.of h1, SqL.of h2, fun l hl => ?_⟩
  refine lc2_zip hxy (fun i acc σ H2 => (∃ v0 v1, σ = [v0, v1]) ∧ Same H H2 ∧ H2 l = some (.lst acc) ∧ acc = turnsV (xs.take i) (ys.take i)) ⟨⟨_, _, rfl⟩, same_new hl _, upd_same, rfl⟩ (fun i acc σ H2 z => ⟨z.2.2.1, SqL.of (z.2.1 _ _ h1), SqL.of (z.2.1 _ _ h2)⟩) ?_ ?_
  · rintro i acc σ H2 x y T hx hy hT ⟨⟨v0, v1, rfl⟩, s2, hl2, e2⟩
    have ix := (List.getElem?_eq_some_iff.mp hx).1
    have al : acc.length ≤ 2000 := by
      rw [e2, turnsV_len _ _ (by rw [List.length_take, List.length_take, hxy]), List.length_take]; lia
    refine ⟨_, rfl, T, rfl, ⟨_, .inl (.inl (atNew hT _))⟩, ?_⟩
    have lT : l ≠ T := ne_of_none hl2 hT
    refine lc1_tup (zs := [x, y]) (fun j ac τ G => (∃ v1, τ = [some (.ref T), v1]) ∧ Same H G ∧ G T = some (.tup [x, y]) ∧ G l = some (.lst ac) ∧ ac = acc ++ [x, y].take j) ⟨⟨_, rfl⟩, s2.trans (same_new hT _), atNew hT _, same_new hT _ _ _ hl2, (List.append_nil _).symm⟩ (fun j ac τ G z => ⟨z.2.2.2.1, .inl (.inl z.2.2.1)⟩) ?_ ?_
    · rintro j u ac τ G hu ⟨⟨v1, rfl⟩, s3, hT3, hl3, e3⟩
      have jl := (List.getElem?_eq_some_iff.mp hu).1
      refine ⟨_, rfl, hl3, ?_, nx jl ⟨⟨_, rfl⟩, fun c o e => ?_, ?_, upd_same, ?_⟩⟩
      · rw [e3, List.length_append, List.length_take, sizeLine_eq]
        simp only [List.length_cons, List.length_nil] at jl ⊢
        lia
      · rw [upd_ne (ne_of_none e hl)]; exact s3 c o e
      · rw [upd_ne (Ne.symm lT)]; exact hT3
      · obtain ⟨_, eu⟩ := List.getElem?_eq_some_iff.mp hu
        rw [e3, List.append_assoc, List.take_succ_eq_append_getElem jl, eu]
    · rintro ac τ G ⟨⟨v1, rfl⟩, s3, hT3, hl3, e3⟩
      refine nx ix ⟨⟨_, _, rfl⟩, s3, hl3, ?_⟩
      rw [e3, e2, turns_next xs ys i x y hx hy]; rfl
  · rintro acc σ H2 ⟨_, s2, hl2, e2⟩
    refine k l H2 s2 ?_
    rw [hl2, e2, List.take_length, hxy, List.take_length]
end
end K33
end
section
set_option maxHeartbeats 4000001
namespace K33
open PySem L2 Own Bn
abbrev sTreeOf : Stmt := top 24
abbrev sTree : Stmt := top 18
def spTreeOf (m : Nat) : Sp := fun vs H Q _ => ∃ p row, vs = [.ref p] ∧ H p = some (.lst (nums row)) ∧ row.length = 2 ^ m ∧ m ≤ 8 ∧ ∀ c lf le ps H', Same H H' → H' c = some (.tup [.ref lf, .ref le]) → H' lf = some (.lst ps) → Prs H' ps (treeN m row).1 → H' le = some (.lst (nums (treeN m row).2)) → Q (.ref c) H'
def spTree : Sp := fun vs H Q _ => ∃ k : Nat, vs = [.int k] ∧ k < 4 ∧ ∀ r' fr' er' ps' H', Same H H' → NetAt H' r' fr' er' ps' (plainN (treeW k)) → Q (.ref r') H'
theorem t_take (row : List Nat) (i : Nat) (h : i ≤ row.length) : cutV (nums row) none (some (i : Int)) = nums (row.take i) := by
  rw [cut_upto _ _ (by rw [nums_len]; exact h)]
  unfold nums
  rw [List.map_take]
theorem t_drop (row : List Nat) (i : Nat) (h : i ≤ row.length) : cutV (nums row) (some (i : Int)) none = nums (row.drop i) := by
  rw [cut_from _ _ (by rw [nums_len]; exact h)]
  unfold nums
  rw [List.map_drop]
theorem nums_turns (a b : List Nat) : turnsV (nums a) (nums b) = nums (turnsV a b) := by unfold nums; exact turnsV_map _ a b
theorem nums_at (row : List Nat) (i : Nat) (h : i < row.length) : (nums row)[i]? = some (.int ((row.getD i 0 : Nat) : Int)) := by
  unfold nums
  rw [List.getElem?_map, List.getElem?_eq_getElem h, List.getD_eq_getElem?_getD, List.getElem?_eq_getElem h]; rfl
section
variable {P : Program} {w : World} {K : PySem.W.Frag} {mg : Str → Option Value} {base : Heap}
theorem scTo : FnScope ["row", "half", "first_forks", "first_ends", "second_forks", "second_ends"] ["row"] (defScope sTreeOf) := ⟨rfl, rfl, rfl, by decide +kernel, rfl, by decide +kernel, by decide +kernel⟩
theorem ok_treeof1 {f fB : Addr} {fd dB : FuncData} (F : Fun K "tree_of" "tree_of" sTreeOf f fd) (G : Mgs mg) (UB : Use P w K mg base "by_turns" ["one", "other"] 1 spBy fB dB) (bS : Binds K fd ["row"] []) (mS : mg "tree_of" = some (.ref f)) (n : Nat)
    (GS : FnOk P w K mg base CX0 (n + 1) f fd ["row"] (fun vs H Q E => ∃ m, n = m + 1 ∧ spTreeOf m vs H Q E)) : FnOk P w K mg base CX0 (n + 2) f fd ["row"] (spTreeOf n) := by
  have UT : Use P w K mg base "tree_of" ["row"] (n + 1) (fun vs H Q E => ∃ m, n = m + 1 ∧ spTreeOf m vs H Q E) f fd := ⟨GS, bS, F.kp, mS⟩
  refine F.ok scTo (fun vs H Q E h => ?_) (fun cdv A outer s H vs Q E hr h => ?_)
  · obtain ⟨p, row, rfl, _⟩ := h
    rfl
  obtain ⟨p, row, rfl, hp, rl, n20, k⟩ := h
  have hr1 : Room 1 _ := hr.mono (by lia)
  refine ⟨_, (@pss_cons _ _ _ _ _ (@ps_if _ _ _ _ _ _ _ _ (@pt_cmpR _ _ _ _ _ _ _ _ op_lt (@pe_callB _ _ _ _ _ _ _ _ _ call_len_seq (by rfl) G.len PySem.boot_len (@pa_cons _ _ _ _ _ (@pv _ 0 _ _ (by rfl) (by first | exact Or.inl rfl | exact Or.inr (Or.inl rfl) | exact Or.inr (Or.inr rfl)) (by decide) (by decide)) pa_nil (by rfl)) (by decide) (by decide) (by rfl) (by rfl)) pe_int (nomark _)) (@pss_one _ _ _ (@ps_ret _ _ _ _ (@pe_tup _ _ _ _ _ (@pa_cons _ _ _ _ _ (@pe_lst _ _ _ _ pa_nil) (@pa_cons _ _ _ _ _ (@pv _ 0 _ _ (by rfl) (by first | exact Or.inl rfl | exact Or.inr (Or.inl rfl) | exact Or.inr (Or.inr rfl)) (by decide) (by decide)) pa_nil (by rfl)) (by rfl))))) pss_nil) (@pss_cons _ _ _ _ _ (@ps_set _ _ 1 _ _ _ _ scTo.nd rfl (Or.inl rfl) (@pe_op _ _ _ _ _ _ _ _ op_fdiv (@pe_callB _ _ _ _ _ _ _ _ _ call_len_seq (by rfl) G.len PySem.boot_len (@pa_cons _ _ _ _ _ (@pv _ 0 _ _ (by rfl) (by first | exact Or.inl rfl | exact Or.inr (Or.inl rfl) | exact Or.inr (Or.inr rfl)) (by decide) (by decide)) pa_nil (by rfl)) (by decide) (by decide) (by rfl) (by rfl)) pe_int) (by rfl) (by first | exact .inl rfl | exact .inr rfl | assumption)) (@pss_cons _ _ _ _ _ (@ps_asg _ _ _ _ _ _ (@pe_call _ _ _ _ _ _ _ _ _ _ _ _ _ _ _ _ UT.ok hr (by rfl) UT.m UT.kp UT.b .nil pass0 (@pa_cons _ _ _ _ _ (@pe_slice _ _ _ _ _ _ _ _ _ _ sl_list (@pv _ 0 _ _ (by rfl) (by first | exact Or.inl rfl | exact Or.inr (Or.inl rfl) | exact Or.inr (Or.inr rfl)) (by decide) (by decide)) po_none (@po_some _ _ _ (@pv _ 1 _ _ (by rfl) (by first | exact Or.inl rfl | exact Or.inr (Or.inl rfl) | exact Or.inr (Or.inr rfl)) (by decide) (by decide)))) pa_nil (by rfl)) (by decide) (by rfl) (by rfl)) (@pg_tup _ _ _ _ _ _ rfl (@pgs_cons _ _ _ _ _ (@pg_name _ _ 2 _ scTo.nd rfl (Or.inl rfl) (by first | exact .inl rfl | exact .inr rfl | assumption)) (@pgs_cons _ _ _ _ _ (@pg_name _ _ 3 _ scTo.nd rfl (Or.inl rfl) (by first | exact .inl rfl | exact .inr rfl | assumption)) pgs_nil (by rfl)) (by rfl)) (by rfl) (by rfl)) (by rfl) (by rfl) (by rfl)) (@pss_cons _ _ _ _ _ (@ps_asg _ _ _ _ _ _ (@pe_call _ _ _ _ _ _ _ _ _ _ _ _ _ _ _ _ UT.ok hr (by rfl) UT.m UT.kp UT.b .nil pass0 (@pa_cons _ _ _ _ _ (@pe_slice _ _ _ _ _ _ _ _ _ _ sl_list (@pv _ 0 _ _ (by rfl) (by first | exact Or.inl rfl | exact Or.inr (Or.inl rfl) | exact Or.inr (Or.inr rfl)) (by decide) (by decide)) (@po_some _ _ _ (@pv _ 1 _ _ (by rfl) (by first | exact Or.inl rfl | exact Or.inr (Or.inl rfl) | exact Or.inr (Or.inr rfl)) (by decide) (by decide))) po_none) pa_nil (by rfl)) (by decide) (by rfl) (by rfl)) (@pg_tup _ _ _ _ _ _ rfl (@pgs_cons _ _ _ _ _ (@pg_name _ _ 4 _ scTo.nd rfl (Or.inl rfl) (by first | exact .inl rfl | exact .inr rfl | assumption)) (@pgs_cons _ _ _ _ _ (@pg_name _ _ 5 _ scTo.nd rfl (Or.inl rfl) (by first | exact .inl rfl | exact .inr rfl | assumption)) pgs_nil (by rfl)) (by rfl)) (by rfl) (by rfl)) (by rfl) (by rfl) (by rfl)) (@pss_one _ _ _ (@ps_ret _ _ _ _ (@pe_tup _ _ _ _ _ (@pa_cons _ _ _ _ _ (@pe_op _ _ _ _ _ _ _ _ op_cat (@pe_op _ _ _ _ _ _ _ _ op_cat (@pe_lst _ _ _ _ (@pa_cons _ _ _ _ _ (@pe_tup _ _ _ _ _ (@pa_cons _ _ _ _ _ (@pe_ix _ _ _ _ _ _ _ ix_list (@pv _ 0 _ _ (by rfl) (by first | exact Or.inl rfl | exact Or.inr (Or.inl rfl) | exact Or.inr (Or.inr rfl)) (by decide) (by decide)) pe_int (fun _ _ => rfl)) (@pa_cons _ _ _ _ _ (@pe_ix _ _ _ _ _ _ _ ix_list (@pv _ 0 _ _ (by rfl) (by first | exact Or.inl rfl | exact Or.inr (Or.inl rfl) | exact Or.inr (Or.inr rfl)) (by decide) (by decide)) (@pv _ 1 _ _ (by rfl) (by first | exact Or.inl rfl | exact Or.inr (Or.inl rfl) | exact Or.inr (Or.inr rfl)) (by decide) (by decide)) (fun _ _ => rfl)) pa_nil (by rfl)) (by rfl))) pa_nil (by rfl))) (@pv _ 2 _ _ (by rfl) (by first | exact Or.inl rfl | exact Or.inr (Or.inl rfl) | exact Or.inr (Or.inr rfl)) (by decide) (by decide))) (@pv _ 4 _ _ (by rfl) (by first | exact Or.inl rfl | exact Or.inr (Or.inl rfl) | exact Or.inr (Or.inr rfl)) (by decide) (by decide))) (@pa_cons _ _ _ _ _ (@pe_call _ _ _ _ _ _ _ _ _ _ _ _ _ _ _ _ UB.ok hr1 (by rfl) UB.m UB.kp UB.b .nil pass0 (@pa_cons _ _ _ _ _ (@pv _ 3 _ _ (by rfl) (by first | exact Or.inl rfl | exact Or.inr (Or.inl rfl) | exact Or.inr (Or.inr rfl)) (by decide) (by decide)) (@pa_cons _ _ _ _ _ (@pv _ 5 _ _ (by rfl) (by first | exact Or.inl rfl | exact Or.inr (Or.inl rfl) | exact Or.inr (Or.inr rfl)) (by decide) (by decide)) pa_nil (by rfl)) (by rfl)) (by decide) (by rfl) (by rfl)) pa_nil (by rfl)) (by rfl))))))))), ?_⟩
  have nl := nums_len row
  have p8 : 2 ^ n ≤ 2 ^ 8 := Nat.pow_le_pow_right (by decide) n20
  have e8 : 2 ^ 8 = 256 := rfl
  refine ⟨_, rfl, p, _, rfl, .inl (SqL.of hp), _, _, rfl, rfl, _, rfl, ?_⟩
  cases n with
  | zero =>
    have rl1 : row.length = 1 := rl
    rw [decide_eq_true (show (((nums row).length : Nat) : Int) < 2 by lia)]
    refine iteT ⟨(by show 0 ≤ sizeLine; decide), fun l hl => ⟨_, rfl, (by show 2 ≤ sizeLine; decide), fun c hc => ?_⟩⟩
    have s1 := same_new hl (.lst [])
    have s2 := same_new hc (.tup [.ref l, .ref p])
    exact k c l p [] _ (s1.trans s2) (atNew hc _) (s2 _ _ (atNew hl _)) trivial (s2 _ _ (s1 _ _ hp))
  | succ m =>
    obtain ⟨t1, t2, t3⟩ := two_half rl
    obtain ⟨la, lb⟩ := half_len rl
    have pw : 2 ^ (m + 1) = 2 ^ m * 2 := Nat.pow_succ ..
    have p0 := Nat.one_le_two_pow (n := m)
    rw [decide_eq_false (show ¬(((nums row).length : Nat) : Int) < 2 by lia)]
    refine iteF ⟨_, rfl, p, _, rfl, .inl (SqL.of hp), _, _, rfl, rfl, ⟨by decide, by decide⟩, ?_⟩
    have eh : (((nums row).length : Nat) : Int) / 2 = ((row.length / 2 : Nat) : Int) := by rw [nl]; lia
    simp only [eh]
    refine ⟨_, rfl, _, rfl, _, rfl, p, _, rfl, SqL.of hp, fun p1 hp1 => ?_⟩
    rw [t_take row _ t3]
    have s1 := same_new hp1 (.lst (nums (row.take (row.length / 2))))
    refine ⟨m, rfl, p1, row.take (row.length / 2), rfl, atNew hp1 _, la, by lia, fun c2 lf2 le2 ps2 H2 s2 hc2 hf2 pr2 he2 => ?_⟩
    have u2 := s1.trans s2
    refine ⟨c2, _, rfl, SqT.of hc2, rfl, _, _, rfl, _, _, rfl, rfl, ?_⟩
    refine ⟨_, rfl, _, rfl, _, rfl, p, _, rfl, SqL.of (u2 _ _ hp), fun p3 hp3 => ?_⟩
    rw [t_drop row _ t3]
    have s3 := same_new hp3 (.lst (nums (row.drop (row.length / 2))))
    refine ⟨m, rfl, p3, row.drop (row.length / 2), rfl, atNew hp3 _, lb, by lia, fun c4 lf4 le4 ps4 H4 s4 hc4 hf4 pr4 he4 => ?_⟩
    have u4 := s3.trans s4
    refine ⟨c4, _, rfl, SqT.of hc4, rfl, _, _, rfl, _, _, rfl, rfl, ?_⟩
    have hp4 := u4 _ _ (u2 _ _ hp)
    obtain ⟨xl, xf⟩ := tree_len m _ la
    obtain ⟨yl, yf⟩ := tree_len m _ lb
    have pl2 := pr2.len
    have pl4 := pr4.len
    refine ⟨_, rfl, p, _, 0, _, rfl, rfl, SqL.of hp4, atI_nat (j := 0) (nums_at row 0 (by lia)), ?_⟩
    refine ⟨_, rfl, _, rfl, p, _, _, _, rfl, rfl, SqL.of hp4, atI_nat (nums_at row (row.length / 2) (by lia)), (by show 2 ≤ sizeLine; decide), fun t ht => ?_⟩
    have s5 := same_new ht (.tup [.int ((row.getD 0 0 : Nat) : Int), .int ((row.getD (row.length / 2) 0 : Nat) : Int)])
    refine ⟨(by show 1 ≤ sizeLine; decide), fun l6 hl6 => ?_⟩
    have s6 := same_new hl6 (.lst [.ref t])
    refine ⟨_, rfl, l6, lf2, _, _, rfl, rfl, atNew hl6 _, s6 _ _ (s5 _ _ (u4 _ _ hf2)), by rw [sizeLine_eq]; simp only [List.length_cons, List.length_nil]; lia, fun l7 hl7 => ?_⟩
    have s7 := same_new hl7 (.lst ([.ref t] ++ ps2))
    refine ⟨_, rfl, l7, lf4, _, _, rfl, rfl, atNew hl7 _, s7 _ _ (s6 _ _ (s5 _ _ hf4)), by rw [sizeLine_eq, List.length_append]; simp only [List.length_cons, List.length_nil]; lia, fun l8 hl8 => ?_⟩
    have s8 := same_new hl8 (.lst (([.ref t] ++ ps2) ++ ps4))
    have u8 := ((s5.trans s6).trans s7).trans s8
    refine ⟨_, rfl, _, rfl, le2, le4, _, _, rfl, u8 _ _ (u4 _ _ he2), u8 _ _ he4, by rw [nums_len, nums_len, xl, yl], by rw [nums_len, xl]; lia, fun l9 H9 s9 h9 => ?_⟩
    rw [nums_turns] at h9
    refine ⟨(by show 2 ≤ sizeLine; decide), fun c hc => ?_⟩
    have s10 := same_new hc (.tup [.ref l8, .ref l9])
    have t8 := s8 _ _ (s7 _ _ (s6 _ _ (atNew ht (.tup [.int ((row.getD 0 0 : Nat) : Int), .int ((row.getD (row.length / 2) 0 : Nat) : Int)]))))
    refine k c l8 l9 _ _ ((u2.trans u4).trans ((u8.trans s9).trans s10)) (atNew hc _) (s10 _ _ (s9 _ _ (atNew hl8 _))) ?_ (s10 _ _ h9)
    refine Prs.tups (Tups.of (s9.trans s10)) ?_
    rw [List.append_assoc]
    exact Prs.app (ps := [.ref t]) (fs := [(row.getD 0 0, row.getD (row.length / 2) 0)]) (show Prs _ [.ref t] [(row.getD 0 0, row.getD (row.length / 2) 0)] from ⟨⟨t, rfl, t8⟩, trivial⟩) (Prs.app ((pr2.tups (Tups.of u4)).tups (Tups.of u8)) (pr4.tups (Tups.of u8)))
theorem ok_treeof {f fB : Addr} {fd dB : FuncData} (F : Fun K "tree_of" "tree_of" sTreeOf f fd) (G : Mgs mg) (UB : Use P w K mg base "by_turns" ["one", "other"] 1 spBy fB dB) (bS : Binds K fd ["row"] []) (mS : mg "tree_of" = some (.ref f)) : ∀ n : Nat, FnOk P w K mg base CX0 (n + 2) f fd ["row"] (spTreeOf n)
  | 0 => ok_treeof1 F G UB bS mS 0 ⟨fun vs H Q E ⟨m, h, _⟩ => by lia, fun A outer s H args us vs Q E _ _ _ _ ⟨m, h, _⟩ => by lia⟩
  | m + 1 => ok_treeof1 F G UB bS mS (m + 1) ((ok_treeof F G UB bS mS m).imp fun vs H Q E ⟨m', h, q⟩ => by cases h; exact q)
abbrev spTreeAny : Sp := fun vs H Q E => ∃ m, m ≤ 4 ∧ spTreeOf m vs H Q E
theorem ok_treeany {f fB : Addr} {fd dB : FuncData} (F : Fun K "tree_of" "tree_of" sTreeOf f fd) (G : Mgs mg) (UB : Use P w K mg base "by_turns" ["one", "other"] 1 spBy fB dB) (bS : Binds K fd ["row"] []) (mS : mg "tree_of" = some (.ref f)) : FnOk P w K mg base CX0 6 f fd ["row"] spTreeAny :=
  FnOk.any 4 fun m hm => (ok_treeof F G UB bS mS m).mono (by lia)
theorem scTree : FnScope ["k", "row"] ["k"] (defScope sTree) := ⟨rfl, rfl, rfl, by decide +kernel, rfl, by decide +kernel, by decide +kernel⟩
theorem ok_tree {f fR fT fM : Addr} {fd dR dT dM : FuncData} (F : Fun K "tree" "tree" sTree f fd) (UR : Use P w K mg base "row_of" ["k"] 2 spRowOf fR dR) (UT : Use P w K mg base "tree_of" ["row"] 6 spTreeAny fT dT) (UM : Use P w K mg base "net_of" ["row", "made"] 3 spMadeNet fM dM) : FnOk P w K mg base CX0 7 f fd ["k"] spTree := by
  refine F.ok scTree (fun vs H Q E h => ?_) (fun cdv A outer s H vs Q E hr h => ?_)
  · obtain ⟨k, rfl, _⟩ := h
    rfl
  obtain ⟨k, rfl, k5, q⟩ := h
  have hr2 : Room 2 _ := hr.mono (by decide)
  have hr3 : Room 3 _ := hr.mono (by decide)
  refine ⟨_, (@pss_cons _ _ _ _ _ (@ps_set _ _ 1 _ _ _ _ scTree.nd rfl (Or.inl rfl) (@pe_call _ _ _ _ _ _ _ _ _ _ _ _ _ _ _ _ UR.ok hr2 (by rfl) UR.m UR.kp UR.b .nil pass0 (@pa_cons _ _ _ _ _ (@pv _ 0 _ _ (by rfl) (by first | exact Or.inl rfl | exact Or.inr (Or.inl rfl) | exact Or.inr (Or.inr rfl)) (by decide) (by decide)) pa_nil (by rfl)) (by decide) (by rfl) (by rfl)) (by rfl) (by first | exact .inl rfl | exact .inr rfl | assumption)) (@pss_one _ _ _ (@ps_ret _ _ _ _ (@pe_call _ _ _ _ _ _ _ _ _ _ _ _ _ _ _ _ UM.ok hr3 (by rfl) UM.m UM.kp UM.b .nil pass0 (@pa_cons _ _ _ _ _ (@pv _ 1 _ _ (by rfl) (by first | exact Or.inl rfl | exact Or.inr (Or.inl rfl) | exact Or.inr (Or.inr rfl)) (by decide) (by decide)) (@pa_cons _ _ _ _ _ (@pe_call _ _ _ _ _ _ _ _ _ _ _ _ _ _ _ _ UT.ok hr (by rfl) UT.m UT.kp UT.b .nil pass0 (@pa_cons _ _ _ _ _ (@pv _ 1 _ _ (by rfl) (by first | exact Or.inl rfl | exact Or.inr (Or.inl rfl) | exact Or.inr (Or.inr rfl)) (by decide) (by decide)) pa_nil (by rfl)) (by decide) (by rfl) (by rfl)) pa_nil (by rfl)) (by rfl)) (by decide) (by rfl) (by rfl))))), ?_⟩
  refine ⟨_, rfl, k, rfl, by lia, fun p hp => ?_⟩
  have s1 := same_new hp (.lst (nums (List.range (2 ^ k))))
  refine ⟨_, rfl, _, rfl, k, by lia, p, List.range (2 ^ k), rfl, atNew hp _, List.length_range, by lia, fun c lf le ps H2 s2 hc hf pr he => ?_⟩
  have eN : (⟨(List.range (2 ^ k)).length, (treeN k (List.range (2 ^ k))).1, (treeN k (List.range (2 ^ k))).2⟩ : Nt) = treeW k := by rw [List.length_range]; rfl
  refine ⟨p, c, lf, le, ps, _, List.range (2 ^ k), _, rfl, s2 _ _ (atNew hp _), hc, hf, pr, he, ⟨by rw [eN]; exact tree_ok (by lia), (few_ways k k5).1⟩, fun r' fr' er' ps' H' s' n' => ?_⟩
  rw [eN] at n'
  exact q r' fr' er' ps' H' ((s1.trans s2).trans s') n'
end
end K33
end
section
set_option maxHeartbeats 4000001
namespace K33
open PySem L2 Own Bn
abbrev sMergeOf : Stmt := top 21
def spMergeOf (m : Nat) : Sp := fun vs H Q _ => ∃ p1 p2 a b, vs = [.ref p1, .ref p2] ∧ H p1 = some (.lst (nums a)) ∧ H p2 = some (.lst (nums b)) ∧ a.length = 2 ^ m ∧ b.length = 2 ^ m ∧ m ≤ 8 ∧ ∀ c lf le ps H', Same H H' → H' c = some (.tup [.ref lf, .ref le]) → H' lf = some (.lst ps) → Prs H' ps (mergeN m a b).1 → H' le = some (.lst (nums (mergeN m a b).2)) → Q (.ref c) H'
theorem m_take (row : List Nat) (i : Nat) (h : i ≤ row.length) : cutV (nums row) none (some (i : Int)) = nums (row.take i) := by
  rw [cut_upto _ _ (by rw [nums_len]; exact h)]
  unfold nums
  rw [List.map_take]
theorem m_drop (row : List Nat) (i : Nat) (h : i ≤ row.length) : cutV (nums row) (some (i : Int)) none = nums (row.drop i) := by
  rw [cut_from _ _ (by rw [nums_len]; exact h)]
  unfold nums
  rw [List.map_drop]
theorem m_turns (a b : List Nat) : turnsV (nums a) (nums b) = nums (turnsV a b) := by unfold nums; exact turnsV_map _ a b
theorem m_by2 (off : Nat) (a : List Nat) : by2 off (nums a) = nums (by2 off a) := by unfold nums; exact by2_map _ off a
theorem m_app (a b : List Nat) : nums a ++ nums b = nums (a ++ b) := by unfold nums; exact (List.map_append ..).symm
section
variable {P : Program} {w : World} {K : PySem.W.Frag} {mg : Str → Option Value} {base : Heap}
theorem scMo : FnScope ["one", "other", "first_forks", "first_ends", "second_forks", "second_ends", "last_forks"] ["one", "other"] (defScope sMergeOf) := ⟨rfl, rfl, rfl, by decide +kernel, rfl, by decide +kernel, by decide +kernel⟩
theorem ok_mergeof1 {f fB : Addr} {fd dB : FuncData} (F : Fun K "merger_of" "merger_of" sMergeOf f fd) (G : Mgs mg) (UB : Use P w K mg base "by_turns" ["one", "other"] 1 spBy fB dB) (bS : Binds K fd ["one", "other"] []) (mS : mg "merger_of" = some (.ref f)) (n : Nat)
    (GS : FnOk P w K mg base CX0 (n + 1) f fd ["one", "other"] (fun vs H Q E => ∃ m, n = m + 1 ∧ spMergeOf m vs H Q E)) : FnOk P w K mg base CX0 (n + 2) f fd ["one", "other"] (spMergeOf n) := by
  have UT : Use P w K mg base "merger_of" ["one", "other"] (n + 1) (fun vs H Q E => ∃ m, n = m + 1 ∧ spMergeOf m vs H Q E) f fd := ⟨GS, bS, F.kp, mS⟩
  refine F.ok scMo (fun vs H Q E h => ?_) (fun cdv A outer s H vs Q E hr h => ?_)
  · obtain ⟨p1, p2, a, b, rfl, _⟩ := h
    rfl
  obtain ⟨p1, p2, a, b, rfl, h1, h2, al, bl, n20, k⟩ := h
  have hr1 : Room 1 _ := hr.mono (by lia)
  refine ⟨_, (@pss_cons _ _ _ _ _ (@ps_if _ _ _ _ _ _ _ _ (@pt_cmpR _ _ _ _ _ _ _ _ op_lt (@pe_callB _ _ _ _ _ _ _ _ _ call_len_seq (by rfl) G.len PySem.boot_len (@pa_cons _ _ _ _ _ (@pv _ 0 _ _ (by rfl) (by first | exact Or.inl rfl | exact Or.inr (Or.inl rfl) | exact Or.inr (Or.inr rfl)) (by decide) (by decide)) pa_nil (by rfl)) (by decide) (by decide) (by rfl) (by rfl)) pe_int (nomark _)) (@pss_one _ _ _ (@ps_ret _ _ _ _ (@pe_tup _ _ _ _ _ (@pa_cons _ _ _ _ _ (@pe_lstZip _ _ _ _ _ _ _ _ true true (by rfl) G.list (by rfl) G.zip rfl (@pa_cons _ _ _ _ _ (@pv _ 0 _ _ (by rfl) (by first | exact Or.inl rfl | exact Or.inr (Or.inl rfl) | exact Or.inr (Or.inr rfl)) (by decide) (by decide)) (@pa_cons _ _ _ _ _ (@pv _ 1 _ _ (by rfl) (by first | exact Or.inl rfl | exact Or.inr (Or.inl rfl) | exact Or.inr (Or.inr rfl)) (by decide) (by decide)) pa_nil (by rfl)) (by rfl)) (by rfl) (by rfl) (by rfl)) (@pa_cons _ _ _ _ _ (@pe_op _ _ _ _ _ _ _ _ op_cat (@pv _ 0 _ _ (by rfl) (by first | exact Or.inl rfl | exact Or.inr (Or.inl rfl) | exact Or.inr (Or.inr rfl)) (by decide) (by decide)) (@pv _ 1 _ _ (by rfl) (by first | exact Or.inl rfl | exact Or.inr (Or.inl rfl) | exact Or.inr (Or.inr rfl)) (by decide) (by decide))) pa_nil (by rfl)) (by rfl))))) pss_nil) (@pss_cons _ _ _ _ _ (@ps_asg _ _ _ _ _ _ (@pe_call _ _ _ _ _ _ _ _ _ _ _ _ _ _ _ _ UT.ok hr (by rfl) UT.m UT.kp UT.b .nil pass0 (@pa_cons _ _ _ _ _ (@pe_by2 _ _ _ _ _ _ _ _ _ (@pv _ 0 _ _ (by rfl) (by first | exact Or.inl rfl | exact Or.inr (Or.inl rfl) | exact Or.inr (Or.inr rfl)) (by decide) (by decide)) po_none (@po_some _ _ _ pe_int)) (@pa_cons _ _ _ _ _ (@pe_by2 _ _ _ _ _ _ _ _ _ (@pv _ 1 _ _ (by rfl) (by first | exact Or.inl rfl | exact Or.inr (Or.inl rfl) | exact Or.inr (Or.inr rfl)) (by decide) (by decide)) (@po_some _ _ _ pe_int) (@po_some _ _ _ pe_int)) pa_nil (by rfl)) (by rfl)) (by decide) (by rfl) (by rfl)) (@pg_tup _ _ _ _ _ _ rfl (@pgs_cons _ _ _ _ _ (@pg_name _ _ 2 _ scMo.nd rfl (Or.inl rfl) (by first | exact .inl rfl | exact .inr rfl | assumption)) (@pgs_cons _ _ _ _ _ (@pg_name _ _ 3 _ scMo.nd rfl (Or.inl rfl) (by first | exact .inl rfl | exact .inr rfl | assumption)) pgs_nil (by rfl)) (by rfl)) (by rfl) (by rfl)) (by rfl) (by rfl) (by rfl)) (@pss_cons _ _ _ _ _ (@ps_asg _ _ _ _ _ _ (@pe_call _ _ _ _ _ _ _ _ _ _ _ _ _ _ _ _ UT.ok hr (by rfl) UT.m UT.kp UT.b .nil pass0 (@pa_cons _ _ _ _ _ (@pe_by2 _ _ _ _ _ _ _ _ _ (@pv _ 0 _ _ (by rfl) (by first | exact Or.inl rfl | exact Or.inr (Or.inl rfl) | exact Or.inr (Or.inr rfl)) (by decide) (by decide)) (@po_some _ _ _ pe_int) (@po_some _ _ _ pe_int)) (@pa_cons _ _ _ _ _ (@pe_by2 _ _ _ _ _ _ _ _ _ (@pv _ 1 _ _ (by rfl) (by first | exact Or.inl rfl | exact Or.inr (Or.inl rfl) | exact Or.inr (Or.inr rfl)) (by decide) (by decide)) po_none (@po_some _ _ _ pe_int)) pa_nil (by rfl)) (by rfl)) (by decide) (by rfl) (by rfl)) (@pg_tup _ _ _ _ _ _ rfl (@pgs_cons _ _ _ _ _ (@pg_name _ _ 4 _ scMo.nd rfl (Or.inl rfl) (by first | exact .inl rfl | exact .inr rfl | assumption)) (@pgs_cons _ _ _ _ _ (@pg_name _ _ 5 _ scMo.nd rfl (Or.inl rfl) (by first | exact .inl rfl | exact .inr rfl | assumption)) pgs_nil (by rfl)) (by rfl)) (by rfl) (by rfl)) (by rfl) (by rfl) (by rfl)) (@pss_cons _ _ _ _ _ (@ps_set _ _ 6 _ _ _ _ scMo.nd rfl (Or.inl rfl) (@pe_lstZip _ _ _ _ _ _ _ _ true true (by rfl) G.list (by rfl) G.zip rfl (@pa_cons _ _ _ _ _ (@pv _ 3 _ _ (by rfl) (by first | exact Or.inl rfl | exact Or.inr (Or.inl rfl) | exact Or.inr (Or.inr rfl)) (by decide) (by decide)) (@pa_cons _ _ _ _ _ (@pv _ 5 _ _ (by rfl) (by first | exact Or.inl rfl | exact Or.inr (Or.inl rfl) | exact Or.inr (Or.inr rfl)) (by decide) (by decide)) pa_nil (by rfl)) (by rfl)) (by rfl) (by rfl) (by rfl)) (by rfl) (by first | exact .inl rfl | exact .inr rfl | assumption)) (@pss_one _ _ _ (@ps_ret _ _ _ _ (@pe_tup _ _ _ _ _ (@pa_cons _ _ _ _ _ (@pe_op _ _ _ _ _ _ _ _ op_cat (@pe_op _ _ _ _ _ _ _ _ op_cat (@pv _ 2 _ _ (by rfl) (by first | exact Or.inl rfl | exact Or.inr (Or.inl rfl) | exact Or.inr (Or.inr rfl)) (by decide) (by decide)) (@pv _ 4 _ _ (by rfl) (by first | exact Or.inl rfl | exact Or.inr (Or.inl rfl) | exact Or.inr (Or.inr rfl)) (by decide) (by decide))) (@pv _ 6 _ _ (by rfl) (by first | exact Or.inl rfl | exact Or.inr (Or.inl rfl) | exact Or.inr (Or.inr rfl)) (by decide) (by decide))) (@pa_cons _ _ _ _ _ (@pe_call _ _ _ _ _ _ _ _ _ _ _ _ _ _ _ _ UB.ok hr1 (by rfl) UB.m UB.kp UB.b .nil pass0 (@pa_cons _ _ _ _ _ (@pv _ 3 _ _ (by rfl) (by first | exact Or.inl rfl | exact Or.inr (Or.inl rfl) | exact Or.inr (Or.inr rfl)) (by decide) (by decide)) (@pa_cons _ _ _ _ _ (@pv _ 5 _ _ (by rfl) (by first | exact Or.inl rfl | exact Or.inr (Or.inl rfl) | exact Or.inr (Or.inr rfl)) (by decide) (by decide)) pa_nil (by rfl)) (by rfl)) (by decide) (by rfl) (by rfl)) pa_nil (by rfl)) (by rfl))))))))), ?_⟩
  have na := nums_len a
  have nb := nums_len b
  have p8 : 2 ^ n ≤ 2 ^ 8 := Nat.pow_le_pow_right (by decide) n20
  have e8 : 2 ^ 8 = 256 := rfl
  refine ⟨_, rfl, p1, _, rfl, .inl (SqL.of h1), _, _, rfl, rfl, _, rfl, ?_⟩
  cases n with
  | zero =>
    have al1 : a.length = 1 := al
    have bl1 : b.length = 1 := bl
    rw [decide_eq_true (show (((nums a).length : Nat) : Int) < 2 by lia)]
    refine iteT ⟨_, rfl, _, rfl, p1, p2, _, _, rfl, SqL.of h1, SqL.of h2, by lia, by lia, fun lz ts H2 s3 n1 n2 z => ?_⟩
    have pz := prs_zip z (by lia)
    have s4 := same_new n2 (.lst ts)
    have u4 := s3.trans s4
    refine ⟨_, rfl, _, rfl, p1, p2, _, _, rfl, rfl, u4 _ _ h1, u4 _ _ h2, by rw [sizeLine_eq]; lia, fun l5 hl5 => ⟨(by show 2 ≤ sizeLine; decide), fun c hc => ?_⟩⟩
    have s5 := same_new hl5 (.lst (nums a ++ nums b))
    have s6 := same_new hc (.tup [.ref lz, .ref l5])
    refine k c lz l5 ts _ ((u4.trans s5).trans s6) (atNew hc _) (s6 _ _ (s5 _ _ (atNew n2 _))) (((pz.tups (Tups.of s4)).tups (Tups.of s5)).tups (Tups.of s6)) ?_
    rw [s6 _ _ (atNew hl5 _), m_app]; rfl
  | succ m =>
    obtain ⟨a0, a1⟩ := by2_half al
    obtain ⟨b0, b1⟩ := by2_half bl
    have pw : 2 ^ (m + 1) = 2 ^ m * 2 := Nat.pow_succ ..
    have p0 := Nat.one_le_two_pow (n := m)
    rw [decide_eq_false (show ¬(((nums a).length : Nat) : Int) < 2 by lia)]
    refine iteF ⟨_, rfl, 2, rfl, rfl, 0, p1, _, .inl ⟨rfl, rfl⟩, rfl, SqL.of h1, fun q1 hq1 => ?_⟩
    rw [m_by2]
    have s1 := same_new hq1 (.lst (nums (by2 0 a)))
    refine ⟨_, rfl, 1, rfl, 2, rfl, rfl, 1, p2, _, .inr ⟨rfl, rfl⟩, rfl, SqL.of (s1 _ _ h2), fun q2 hq2 => ?_⟩
    rw [m_by2]
    have s2 := same_new hq2 (.lst (nums (by2 1 b)))
    refine ⟨m, rfl, q1, q2, by2 0 a, by2 1 b, rfl, s2 _ _ (atNew hq1 _), atNew hq2 _, a0, b1, by lia, fun c3 lf3 le3 ps3 H3 s3 hc3 hf3 pr3 he3 => ?_⟩
    have u3 := (s1.trans s2).trans s3
    refine ⟨c3, _, rfl, SqT.of hc3, rfl, _, _, rfl, _, _, rfl, rfl, ?_⟩
    refine ⟨_, rfl, 1, rfl, 2, rfl, rfl, 1, p1, _, .inr ⟨rfl, rfl⟩, rfl, SqL.of (u3 _ _ h1), fun q4 hq4 => ?_⟩
    rw [m_by2]
    have s4 := same_new hq4 (.lst (nums (by2 1 a)))
    refine ⟨_, rfl, 2, rfl, rfl, 0, p2, _, .inl ⟨rfl, rfl⟩, rfl, SqL.of (s4 _ _ (u3 _ _ h2)), fun q5 hq5 => ?_⟩
    rw [m_by2]
    have s5 := same_new hq5 (.lst (nums (by2 0 b)))
    refine ⟨m, rfl, q4, q5, by2 1 a, by2 0 b, rfl, s5 _ _ (atNew hq4 _), atNew hq5 _, a1, b0, by lia, fun c6 lf6 le6 ps6 H6 s6 hc6 hf6 pr6 he6 => ?_⟩
    have u6 := (s4.trans s5).trans s6
    refine ⟨c6, _, rfl, SqT.of hc6, rfl, _, _, rfl, _, _, rfl, rfl, ?_⟩
    obtain ⟨xl, xf⟩ := merge_len m _ _ a0 b1
    obtain ⟨yl, yf⟩ := merge_len m _ _ a1 b0
    have bd := (stairL_small m (by lia)).2
    have pl3 := pr3.len
    have pl6 := pr6.len
    refine ⟨_, rfl, _, rfl, le3, le6, _, _, rfl, SqL.of (u6 _ _ he3), SqL.of he6, by rw [nums_len, nums_len, xl, yl]; exact Nat.le_refl _, by rw [nums_len, xl]; lia, fun lz ts H7 s7 n1 n2 z => ?_⟩
    have pz := prs_zip z (by rw [xl, yl]; exact Nat.le_refl _)
    have s8 := same_new n2 (.lst ts)
    have u8 := s7.trans s8
    have tl := pz.len
    rw [List.length_zip, xl, yl, Nat.min_self] at tl
    refine ⟨_, rfl, _, rfl, lf3, lf6, _, _, rfl, rfl, u8 _ _ (u6 _ _ hf3), u8 _ _ hf6, by rw [sizeLine_eq]; lia, fun l9 hl9 => ?_⟩
    have s9 := same_new hl9 (.lst (ps3 ++ ps6))
    refine ⟨_, rfl, l9, lz, _, _, rfl, rfl, atNew hl9 _, s9 _ _ (atNew n2 _), by rw [sizeLine_eq, List.length_append]; lia, fun l10 hl10 => ?_⟩
    have s10 := same_new hl10 (.lst ((ps3 ++ ps6) ++ ts))
    have u10 := (u8.trans s9).trans s10
    refine ⟨_, rfl, _, rfl, le3, le6, _, _, rfl, u10 _ _ (u6 _ _ he3), u10 _ _ he6, by rw [nums_len, nums_len, xl, yl], by rw [nums_len, xl]; lia, fun l11 H11 s11 h11 => ?_⟩
    rw [m_turns] at h11
    refine ⟨(by show 2 ≤ sizeLine; decide), fun c hc => ?_⟩
    have s12 := same_new hc (.tup [.ref l10, .ref l11])
    refine k c l10 l11 _ _ ((u3.trans u6).trans ((u10.trans s11).trans s12)) (atNew hc _) (s12 _ _ (s11 _ _ (atNew hl10 _))) ?_ (s12 _ _ h11)
    refine Prs.tups (Tups.of ((s9.trans s10).trans (s11.trans s12))) ?_
    exact Prs.app (Prs.app ((pr3.tups (Tups.of u6)).tups (Tups.of u8)) (pr6.tups (Tups.of u8))) (pz.tups (Tups.of s8))
theorem ok_mergeof {f fB : Addr} {fd dB : FuncData} (F : Fun K "merger_of" "merger_of" sMergeOf f fd) (G : Mgs mg) (UB : Use P w K mg base "by_turns" ["one", "other"] 1 spBy fB dB) (bS : Binds K fd ["one", "other"] []) (mS : mg "merger_of" = some (.ref f)) : ∀ n : Nat, FnOk P w K mg base CX0 (n + 2) f fd ["one", "other"] (spMergeOf n)
  | 0 => ok_mergeof1 F G UB bS mS 0 ⟨fun vs H Q E ⟨m, h, _⟩ => by lia, fun A outer s H args us vs Q E _ _ _ _ ⟨m, h, _⟩ => by lia⟩
  | m + 1 => ok_mergeof1 F G UB bS mS (m + 1) ((ok_mergeof F G UB bS mS m).imp fun vs H Q E ⟨m', h, q⟩ => by cases h; exact q)
abbrev spMergeAny : Sp := fun vs H Q E => ∃ m, m ≤ 4 ∧ spMergeOf m vs H Q E
theorem ok_mergeany {f fB : Addr} {fd dB : FuncData} (F : Fun K "merger_of" "merger_of" sMergeOf f fd) (G : Mgs mg) (UB : Use P w K mg base "by_turns" ["one", "other"] 1 spBy fB dB) (bS : Binds K fd ["one", "other"] []) (mS : mg "merger_of" = some (.ref f)) : FnOk P w K mg base CX0 6 f fd ["one", "other"] spMergeAny :=
  FnOk.any 4 fun m hm => (ok_mergeof F G UB bS mS m).mono (by lia)
end
end K33
end
section
set_option maxHeartbeats 4000001
namespace K33
open PySem L2 Own Bn
abbrev sMerger : Stmt := top 15
def spMerger : Sp := fun vs H Q _ => ∃ k : Nat, vs = [.int ((k + 1 : Nat) : Int)] ∧ k < 4 ∧ ∀ r' fr' er' ps' H', Same H H' → NetAt H' r' fr' er' ps' (plainN (mergeW k)) → Q (.ref r') H'
section
variable {P : Program} {w : World} {K : PySem.W.Frag} {mg : Str → Option Value} {base : Heap}
theorem scMr : FnScope ["k", "row", "half"] ["k"] (defScope sMerger) := ⟨rfl, rfl, rfl, by decide +kernel, rfl, by decide +kernel, by decide +kernel⟩
theorem ok_merger {f fR fT fM : Addr} {fd dR dT dM : FuncData} (F : Fun K "merger" "merger" sMerger f fd) (G : Mgs mg) (UR : Use P w K mg base "row_of" ["k"] 2 spRowOf fR dR) (UT : Use P w K mg base "merger_of" ["one", "other"] 6 spMergeAny fT dT) (UM : Use P w K mg base "net_of" ["row", "made"] 3 spMadeNet fM dM) : FnOk P w K mg base CX0 7 f fd ["k"] spMerger := by
  refine F.ok scMr (fun vs H Q E h => ?_) (fun cdv A outer s H vs Q E hr h => ?_)
  · obtain ⟨k, rfl, _⟩ := h
    rfl
  obtain ⟨k, rfl, k4, q⟩ := h
  have hr2 : Room 2 _ := hr.mono (by decide)
  have hr3 : Room 3 _ := hr.mono (by decide)
  refine ⟨_, (@pss_cons _ _ _ _ _ (@ps_set _ _ 1 _ _ _ _ scMr.nd rfl (Or.inl rfl) (@pe_call _ _ _ _ _ _ _ _ _ _ _ _ _ _ _ _ UR.ok hr2 (by rfl) UR.m UR.kp UR.b .nil pass0 (@pa_cons _ _ _ _ _ (@pv _ 0 _ _ (by rfl) (by first | exact Or.inl rfl | exact Or.inr (Or.inl rfl) | exact Or.inr (Or.inr rfl)) (by decide) (by decide)) pa_nil (by rfl)) (by decide) (by rfl) (by rfl)) (by rfl) (by first | exact .inl rfl | exact .inr rfl | assumption)) (@pss_cons _ _ _ _ _ (@ps_set _ _ 2 _ _ _ _ scMr.nd rfl (Or.inl rfl) (@pe_op _ _ _ _ _ _ _ _ op_fdiv (@pe_callB _ _ _ _ _ _ _ _ _ call_len_seq (by rfl) G.len PySem.boot_len (@pa_cons _ _ _ _ _ (@pv _ 1 _ _ (by rfl) (by first | exact Or.inl rfl | exact Or.inr (Or.inl rfl) | exact Or.inr (Or.inr rfl)) (by decide) (by decide)) pa_nil (by rfl)) (by decide) (by decide) (by rfl) (by rfl)) pe_int) (by rfl) (by first | exact .inl rfl | exact .inr rfl | assumption)) (@pss_one _ _ _ (@ps_ret _ _ _ _ (@pe_call _ _ _ _ _ _ _ _ _ _ _ _ _ _ _ _ UM.ok hr3 (by rfl) UM.m UM.kp UM.b .nil pass0 (@pa_cons _ _ _ _ _ (@pv _ 1 _ _ (by rfl) (by first | exact Or.inl rfl | exact Or.inr (Or.inl rfl) | exact Or.inr (Or.inr rfl)) (by decide) (by decide)) (@pa_cons _ _ _ _ _ (@pe_call _ _ _ _ _ _ _ _ _ _ _ _ _ _ _ _ UT.ok hr (by rfl) UT.m UT.kp UT.b .nil pass0 (@pa_cons _ _ _ _ _ (@pe_slice _ _ _ _ _ _ _ _ _ _ sl_list (@pv _ 1 _ _ (by rfl) (by first | exact Or.inl rfl | exact Or.inr (Or.inl rfl) | exact Or.inr (Or.inr rfl)) (by decide) (by decide)) po_none (@po_some _ _ _ (@pv _ 2 _ _ (by rfl) (by first | exact Or.inl rfl | exact Or.inr (Or.inl rfl) | exact Or.inr (Or.inr rfl)) (by decide) (by decide)))) (@pa_cons _ _ _ _ _ (@pe_slice _ _ _ _ _ _ _ _ _ _ sl_list (@pv _ 1 _ _ (by rfl) (by first | exact Or.inl rfl | exact Or.inr (Or.inl rfl) | exact Or.inr (Or.inr rfl)) (by decide) (by decide)) (@po_some _ _ _ (@pv _ 2 _ _ (by rfl) (by first | exact Or.inl rfl | exact Or.inr (Or.inl rfl) | exact Or.inr (Or.inr rfl)) (by decide) (by decide))) po_none) pa_nil (by rfl)) (by rfl)) (by decide) (by rfl) (by rfl)) pa_nil (by rfl)) (by rfl)) (by decide) (by rfl) (by rfl)))))), ?_⟩
  refine ⟨_, rfl, k + 1, rfl, by lia, fun p hp => ?_⟩
  have s1 := same_new hp (.lst (nums (List.range (2 ^ (k + 1)))))
  have h1 := atNew hp (.lst (nums (List.range (2 ^ (k + 1)))))
  have rl : (List.range (2 ^ (k + 1))).length = 2 ^ (k + 1) := List.length_range
  obtain ⟨t1, t2, t3⟩ := two_half rl
  have nl := nums_len (List.range (2 ^ (k + 1)))
  refine ⟨_, rfl, p, _, rfl, .inl (SqL.of h1), _, _, rfl, rfl, ⟨by decide, by decide⟩, ?_⟩
  have eh : (((nums (List.range (2 ^ (k + 1)))).length : Nat) : Int) / 2 = ((2 ^ k : Nat) : Int) := by rw [nl, ← t1]; lia
  simp only [eh]
  have kl : 2 ^ k ≤ (List.range (2 ^ (k + 1))).length := by rw [← t1]; exact t3
  refine ⟨_, rfl, _, rfl, _, rfl, _, rfl, p, _, rfl, SqL.of h1, fun p2 hp2 => ?_⟩
  rw [m_take _ _ kl]
  have s2 := same_new hp2 (.lst (nums ((List.range (2 ^ (k + 1))).take (2 ^ k))))
  refine ⟨_, rfl, _, rfl, _, rfl, p, _, rfl, SqL.of (s2 _ _ h1), fun p3 hp3 => ?_⟩
  rw [m_drop _ _ kl]
  have s3 := same_new hp3 (.lst (nums ((List.range (2 ^ (k + 1))).drop (2 ^ k))))
  have l2 : ((List.range (2 ^ (k + 1))).take (2 ^ k)).length = 2 ^ k := by rw [List.length_take]; lia
  have l3 : ((List.range (2 ^ (k + 1))).drop (2 ^ k)).length = 2 ^ k := by rw [List.length_drop]; lia
  refine ⟨k, by lia, p2, p3, _, _, rfl, s3 _ _ (atNew hp2 _), atNew hp3 _, l2, l3, by lia, fun c lf le ps H4 s4 hc hf pr he => ?_⟩
  have u4 := (s2.trans s3).trans s4
  have eN : (⟨(List.range (2 ^ (k + 1))).length, (mergeN k ((List.range (2 ^ (k + 1))).take (2 ^ k)) ((List.range (2 ^ (k + 1))).drop (2 ^ k))).1, (mergeN k ((List.range (2 ^ (k + 1))).take (2 ^ k)) ((List.range (2 ^ (k + 1))).drop (2 ^ k))).2⟩ : Nt) = mergeW k := by rw [List.length_range]; rfl
  refine ⟨p, c, lf, le, ps, _, List.range (2 ^ (k + 1)), _, rfl, u4 _ _ h1, hc, hf, pr, he, ⟨by rw [eN]; exact merge_ok k4, (few_ways k k4).2.2.2⟩, fun r' fr' er' ps' H' s' n' => ?_⟩
  rw [eN] at n'
  exact q r' fr' er' ps' H' ((s1.trans u4).trans s') n'
end
end K33
end
section
set_option maxHeartbeats 4000001
namespace K33
open PySem L2 Own Bn
abbrev sStairOf : Stmt := top 22
abbrev sStairway : Stmt := top 16
def spStairOf (m : Nat) : Sp := fun vs H Q _ => ∃ p row, vs = [.ref p] ∧ H p = some (.lst (nums row)) ∧ row.length = 2 ^ m ∧ m ≤ 4 ∧ ∀ c lf le ps H', Same H H' → H' c = some (.tup [.ref lf, .ref le]) → H' lf = some (.lst ps) → Prs H' ps (stairN m row).1 → H' le = some (.lst (nums (stairN m row).2)) → Q (.ref c) H'
def spStairway : Sp := fun vs H Q _ => ∃ k : Nat, vs = [.int k] ∧ k < 4 ∧ ∀ r' fr' er' ps' H', Same H H' → NetAt H' r' fr' er' ps' (plainN (stairW k)) → Q (.ref r') H'
section
variable {P : Program} {w : World} {K : PySem.W.Frag} {mg : Str → Option Value} {base : Heap}
theorem scSo : FnScope ["row", "half", "first_forks", "first_ends", "second_forks", "second_ends", "last_forks", "ends"] ["row"] (defScope sStairOf) := ⟨rfl, rfl, rfl, by decide +kernel, rfl, by decide +kernel, by decide +kernel⟩
theorem ok_stairof1 {f fB : Addr} {fd dB : FuncData} (F : Fun K "stairway_of" "stairway_of" sStairOf f fd) (G : Mgs mg) (UM : Use P w K mg base "merger_of" ["one", "other"] 6 spMergeAny fB dB) (bS : Binds K fd ["row"] []) (mS : mg "stairway_of" = some (.ref f)) (n : Nat)
    (GS : FnOk P w K mg base CX0 (n + 6) f fd ["row"] (fun vs H Q E => ∃ m, n = m + 1 ∧ spStairOf m vs H Q E)) : FnOk P w K mg base CX0 (n + 7) f fd ["row"] (spStairOf n) := by
  have UT : Use P w K mg base "stairway_of" ["row"] (n + 6) (fun vs H Q E => ∃ m, n = m + 1 ∧ spStairOf m vs H Q E) f fd := ⟨GS, bS, F.kp, mS⟩
  refine F.ok scSo (fun vs H Q E h => ?_) (fun cdv A outer s H vs Q E hr h => ?_)
  · obtain ⟨p, row, rfl, _⟩ := h
    rfl
  obtain ⟨p, row, rfl, hp, rl, n20, k⟩ := h
  have hr6 : Room 6 _ := hr.mono (by lia)
  refine ⟨_, (@pss_cons _ _ _ _ _ (@ps_if _ _ _ _ _ _ _ _ (@pt_cmpR _ _ _ _ _ _ _ _ op_lt (@pe_callB _ _ _ _ _ _ _ _ _ call_len_seq (by rfl) G.len PySem.boot_len (@pa_cons _ _ _ _ _ (@pv _ 0 _ _ (by rfl) (by first | exact Or.inl rfl | exact Or.inr (Or.inl rfl) | exact Or.inr (Or.inr rfl)) (by decide) (by decide)) pa_nil (by rfl)) (by decide) (by decide) (by rfl) (by rfl)) pe_int (nomark _)) (@pss_one _ _ _ (@ps_ret _ _ _ _ (@pe_tup _ _ _ _ _ (@pa_cons _ _ _ _ _ (@pe_lst _ _ _ _ pa_nil) (@pa_cons _ _ _ _ _ (@pv _ 0 _ _ (by rfl) (by first | exact Or.inl rfl | exact Or.inr (Or.inl rfl) | exact Or.inr (Or.inr rfl)) (by decide) (by decide)) pa_nil (by rfl)) (by rfl))))) pss_nil) (@pss_cons _ _ _ _ _ (@ps_set _ _ 1 _ _ _ _ scSo.nd rfl (Or.inl rfl) (@pe_op _ _ _ _ _ _ _ _ op_fdiv (@pe_callB _ _ _ _ _ _ _ _ _ call_len_seq (by rfl) G.len PySem.boot_len (@pa_cons _ _ _ _ _ (@pv _ 0 _ _ (by rfl) (by first | exact Or.inl rfl | exact Or.inr (Or.inl rfl) | exact Or.inr (Or.inr rfl)) (by decide) (by decide)) pa_nil (by rfl)) (by decide) (by decide) (by rfl) (by rfl)) pe_int) (by rfl) (by first | exact .inl rfl | exact .inr rfl | assumption)) (@pss_cons _ _ _ _ _ (@ps_asg _ _ _ _ _ _ (@pe_call _ _ _ _ _ _ _ _ _ _ _ _ _ _ _ _ UT.ok hr (by rfl) UT.m UT.kp UT.b .nil pass0 (@pa_cons _ _ _ _ _ (@pe_slice _ _ _ _ _ _ _ _ _ _ sl_list (@pv _ 0 _ _ (by rfl) (by first | exact Or.inl rfl | exact Or.inr (Or.inl rfl) | exact Or.inr (Or.inr rfl)) (by decide) (by decide)) po_none (@po_some _ _ _ (@pv _ 1 _ _ (by rfl) (by first | exact Or.inl rfl | exact Or.inr (Or.inl rfl) | exact Or.inr (Or.inr rfl)) (by decide) (by decide)))) pa_nil (by rfl)) (by decide) (by rfl) (by rfl)) (@pg_tup _ _ _ _ _ _ rfl (@pgs_cons _ _ _ _ _ (@pg_name _ _ 2 _ scSo.nd rfl (Or.inl rfl) (by first | exact .inl rfl | exact .inr rfl | assumption)) (@pgs_cons _ _ _ _ _ (@pg_name _ _ 3 _ scSo.nd rfl (Or.inl rfl) (by first | exact .inl rfl | exact .inr rfl | assumption)) pgs_nil (by rfl)) (by rfl)) (by rfl) (by rfl)) (by rfl) (by rfl) (by rfl)) (@pss_cons _ _ _ _ _ (@ps_asg _ _ _ _ _ _ (@pe_call _ _ _ _ _ _ _ _ _ _ _ _ _ _ _ _ UT.ok hr (by rfl) UT.m UT.kp UT.b .nil pass0 (@pa_cons _ _ _ _ _ (@pe_slice _ _ _ _ _ _ _ _ _ _ sl_list (@pv _ 0 _ _ (by rfl) (by first | exact Or.inl rfl | exact Or.inr (Or.inl rfl) | exact Or.inr (Or.inr rfl)) (by decide) (by decide)) (@po_some _ _ _ (@pv _ 1 _ _ (by rfl) (by first | exact Or.inl rfl | exact Or.inr (Or.inl rfl) | exact Or.inr (Or.inr rfl)) (by decide) (by decide))) po_none) pa_nil (by rfl)) (by decide) (by rfl) (by rfl)) (@pg_tup _ _ _ _ _ _ rfl (@pgs_cons _ _ _ _ _ (@pg_name _ _ 4 _ scSo.nd rfl (Or.inl rfl) (by first | exact .inl rfl | exact .inr rfl | assumption)) (@pgs_cons _ _ _ _ _ (@pg_name _ _ 5 _ scSo.nd rfl (Or.inl rfl) (by first | exact .inl rfl | exact .inr rfl | assumption)) pgs_nil (by rfl)) (by rfl)) (by rfl) (by rfl)) (by rfl) (by rfl) (by rfl)) (@pss_cons _ _ _ _ _ (@ps_asg _ _ _ _ _ _ (@pe_call _ _ _ _ _ _ _ _ _ _ _ _ _ _ _ _ UM.ok hr6 (by rfl) UM.m UM.kp UM.b .nil pass0 (@pa_cons _ _ _ _ _ (@pv _ 3 _ _ (by rfl) (by first | exact Or.inl rfl | exact Or.inr (Or.inl rfl) | exact Or.inr (Or.inr rfl)) (by decide) (by decide)) (@pa_cons _ _ _ _ _ (@pv _ 5 _ _ (by rfl) (by first | exact Or.inl rfl | exact Or.inr (Or.inl rfl) | exact Or.inr (Or.inr rfl)) (by decide) (by decide)) pa_nil (by rfl)) (by rfl)) (by decide) (by rfl) (by rfl)) (@pg_tup _ _ _ _ _ _ rfl (@pgs_cons _ _ _ _ _ (@pg_name _ _ 6 _ scSo.nd rfl (Or.inl rfl) (by first | exact .inl rfl | exact .inr rfl | assumption)) (@pgs_cons _ _ _ _ _ (@pg_name _ _ 7 _ scSo.nd rfl (Or.inl rfl) (by first | exact .inl rfl | exact .inr rfl | assumption)) pgs_nil (by rfl)) (by rfl)) (by rfl) (by rfl)) (by rfl) (by rfl) (by rfl)) (@pss_one _ _ _ (@ps_ret _ _ _ _ (@pe_tup _ _ _ _ _ (@pa_cons _ _ _ _ _ (@pe_op _ _ _ _ _ _ _ _ op_cat (@pe_op _ _ _ _ _ _ _ _ op_cat (@pv _ 2 _ _ (by rfl) (by first | exact Or.inl rfl | exact Or.inr (Or.inl rfl) | exact Or.inr (Or.inr rfl)) (by decide) (by decide)) (@pv _ 4 _ _ (by rfl) (by first | exact Or.inl rfl | exact Or.inr (Or.inl rfl) | exact Or.inr (Or.inr rfl)) (by decide) (by decide))) (@pv _ 6 _ _ (by rfl) (by first | exact Or.inl rfl | exact Or.inr (Or.inl rfl) | exact Or.inr (Or.inr rfl)) (by decide) (by decide))) (@pa_cons _ _ _ _ _ (@pv _ 7 _ _ (by rfl) (by first | exact Or.inl rfl | exact Or.inr (Or.inl rfl) | exact Or.inr (Or.inr rfl)) (by decide) (by decide)) pa_nil (by rfl)) (by rfl)))))))))), ?_⟩
  have nl := nums_len row
  have p8 : 2 ^ n ≤ 2 ^ 4 := Nat.pow_le_pow_right (by decide) n20
  have e8 : 2 ^ 4 = 16 := rfl
  refine ⟨_, rfl, p, _, rfl, .inl (SqL.of hp), _, _, rfl, rfl, _, rfl, ?_⟩
  cases n with
  | zero =>
    have rl1 : row.length = 1 := rl
    rw [decide_eq_true (show (((nums row).length : Nat) : Int) < 2 by lia)]
    refine iteT ⟨(by show 0 ≤ sizeLine; decide), fun l hl => ⟨_, rfl, (by show 2 ≤ sizeLine; decide), fun c hc => ?_⟩⟩
    have s1 := same_new hl (.lst [])
    have s2 := same_new hc (.tup [.ref l, .ref p])
    exact k c l p [] _ (s1.trans s2) (atNew hc _) (s2 _ _ (atNew hl _)) trivial (s2 _ _ (s1 _ _ hp))
  | succ m =>
    obtain ⟨t1, t2, t3⟩ := two_half rl
    obtain ⟨la, lb⟩ := half_len rl
    have pw : 2 ^ (m + 1) = 2 ^ m * 2 := Nat.pow_succ ..
    have p0 := Nat.one_le_two_pow (n := m)
    rw [decide_eq_false (show ¬(((nums row).length : Nat) : Int) < 2 by lia)]
    refine iteF ⟨_, rfl, p, _, rfl, .inl (SqL.of hp), _, _, rfl, rfl, ⟨by decide, by decide⟩, ?_⟩
    have eh : (((nums row).length : Nat) : Int) / 2 = ((row.length / 2 : Nat) : Int) := by rw [nl]; lia
    simp only [eh]
    refine ⟨_, rfl, _, rfl, _, rfl, p, _, rfl, SqL.of hp, fun p1 hp1 => ?_⟩
    rw [m_take row _ t3]
    have s1 := same_new hp1 (.lst (nums (row.take (row.length / 2))))
    refine ⟨m, rfl, p1, row.take (row.length / 2), rfl, atNew hp1 _, la, by lia, fun c2 lf2 le2 ps2 H2 s2 hc2 hf2 pr2 he2 => ?_⟩
    have u2 := s1.trans s2
    refine ⟨c2, _, rfl, SqT.of hc2, rfl, _, _, rfl, _, _, rfl, rfl, ?_⟩
    refine ⟨_, rfl, _, rfl, _, rfl, p, _, rfl, SqL.of (u2 _ _ hp), fun p3 hp3 => ?_⟩
    rw [m_drop row _ t3]
    have s3 := same_new hp3 (.lst (nums (row.drop (row.length / 2))))
    refine ⟨m, rfl, p3, row.drop (row.length / 2), rfl, atNew hp3 _, lb, by lia, fun c4 lf4 le4 ps4 H4 s4 hc4 hf4 pr4 he4 => ?_⟩
    have u4 := s3.trans s4
    refine ⟨c4, _, rfl, SqT.of hc4, rfl, _, _, rfl, _, _, rfl, rfl, ?_⟩
    obtain ⟨xl, xf⟩ := stair_len m _ la
    obtain ⟨yl, yf⟩ := stair_len m _ lb
    obtain ⟨zl, zf⟩ := merge_len m _ _ xl yl
    have pl2 := pr2.len
    have pl4 := pr4.len
    obtain ⟨bd1, bd2⟩ := stairL_small m (by lia)
    refine ⟨_, rfl, _, rfl, m, by lia, le2, le4, _, _, rfl, u4 _ _ he2, he4, xl, yl, by lia, fun c6 lf6 le6 ps6 H6 s6 hc6 hf6 pr6 he6 => ?_⟩
    refine ⟨c6, _, rfl, SqT.of hc6, rfl, _, _, rfl, _, _, rfl, rfl, ?_⟩
    have pl6 := pr6.len
    refine ⟨_, rfl, _, rfl, lf2, lf4, _, _, rfl, rfl, s6 _ _ (u4 _ _ hf2), s6 _ _ hf4, by rw [sizeLine_eq]; lia, fun l7 hl7 => ?_⟩
    have s7 := same_new hl7 (.lst (ps2 ++ ps4))
    refine ⟨_, rfl, l7, lf6, _, _, rfl, rfl, atNew hl7 _, s7 _ _ hf6, by rw [sizeLine_eq, List.length_append]; lia, fun l8 hl8 => ?_⟩
    have s8 := same_new hl8 (.lst ((ps2 ++ ps4) ++ ps6))
    refine ⟨_, rfl, (by show 2 ≤ sizeLine; decide), fun c hc => ?_⟩
    have s9 := same_new hc (.tup [.ref l8, .ref le6])
    have u9 := (s7.trans s8).trans s9
    refine k c l8 le6 _ _ ((u2.trans u4).trans (s6.trans u9)) (atNew hc _) (s9 _ _ (atNew hl8 _)) ?_ (u9 _ _ he6)
    refine Prs.tups (Tups.of u9) ?_
    exact Prs.app (Prs.app ((pr2.tups (Tups.of u4)).tups (Tups.of s6)) (pr4.tups (Tups.of s6))) pr6
theorem ok_stairof {f fB : Addr} {fd dB : FuncData} (F : Fun K "stairway_of" "stairway_of" sStairOf f fd) (G : Mgs mg) (UM : Use P w K mg base "merger_of" ["one", "other"] 6 spMergeAny fB dB) (bS : Binds K fd ["row"] []) (mS : mg "stairway_of" = some (.ref f)) : ∀ n : Nat, FnOk P w K mg base CX0 (n + 7) f fd ["row"] (spStairOf n)
  | 0 => ok_stairof1 F G UM bS mS 0 ⟨fun vs H Q E ⟨m, h, _⟩ => by lia, fun A outer s H args us vs Q E _ _ _ _ ⟨m, h, _⟩ => by lia⟩
  | m + 1 => ok_stairof1 F G UM bS mS (m + 1) ((ok_stairof F G UM bS mS m).imp fun vs H Q E ⟨m', h, q⟩ => by cases h; exact q)
abbrev spStairAny : Sp := fun vs H Q E => ∃ m, m ≤ 4 ∧ spStairOf m vs H Q E
theorem ok_stairany {f fB : Addr} {fd dB : FuncData} (F : Fun K "stairway_of" "stairway_of" sStairOf f fd) (G : Mgs mg) (UM : Use P w K mg base "merger_of" ["one", "other"] 6 spMergeAny fB dB) (bS : Binds K fd ["row"] []) (mS : mg "stairway_of" = some (.ref f)) : FnOk P w K mg base CX0 11 f fd ["row"] spStairAny :=
  FnOk.any 4 fun m hm => (ok_stairof F G UM bS mS m).mono (by lia)
theorem scSw : FnScope ["k", "row"] ["k"] (defScope sStairway) := ⟨rfl, rfl, rfl, by decide +kernel, rfl, by decide +kernel, by decide +kernel⟩
theorem ok_stairway {f fR fT fM : Addr} {fd dR dT dM : FuncData} (F : Fun K "stairway" "stairway" sStairway f fd) (UR : Use P w K mg base "row_of" ["k"] 2 spRowOf fR dR) (UT : Use P w K mg base "stairway_of" ["row"] 11 spStairAny fT dT) (UM : Use P w K mg base "net_of" ["row", "made"] 3 spMadeNet fM dM) : FnOk P w K mg base CX0 12 f fd ["k"] spStairway := by
  refine F.ok scSw (fun vs H Q E h => ?_) (fun cdv A outer s H vs Q E hr h => ?_)
  · obtain ⟨k, rfl, _⟩ := h
    rfl
  obtain ⟨k, rfl, k5, q⟩ := h
  have hr2 : Room 2 _ := hr.mono (by decide)
  have hr3 : Room 3 _ := hr.mono (by decide)
  refine ⟨_, (@pss_cons _ _ _ _ _ (@ps_set _ _ 1 _ _ _ _ scSw.nd rfl (Or.inl rfl) (@pe_call _ _ _ _ _ _ _ _ _ _ _ _ _ _ _ _ UR.ok hr2 (by rfl) UR.m UR.kp UR.b .nil pass0 (@pa_cons _ _ _ _ _ (@pv _ 0 _ _ (by rfl) (by first | exact Or.inl rfl | exact Or.inr (Or.inl rfl) | exact Or.inr (Or.inr rfl)) (by decide) (by decide)) pa_nil (by rfl)) (by decide) (by rfl) (by rfl)) (by rfl) (by first | exact .inl rfl | exact .inr rfl | assumption)) (@pss_one _ _ _ (@ps_ret _ _ _ _ (@pe_call _ _ _ _ _ _ _ _ _ _ _ _ _ _ _ _ UM.ok hr3 (by rfl) UM.m UM.kp UM.b .nil pass0 (@pa_cons _ _ _ _ _ (@pv _ 1 _ _ (by rfl) (by first | exact Or.inl rfl | exact Or.inr (Or.inl rfl) | exact Or.inr (Or.inr rfl)) (by decide) (by decide)) (@pa_cons _ _ _ _ _ (@pe_call _ _ _ _ _ _ _ _ _ _ _ _ _ _ _ _ UT.ok hr (by rfl) UT.m UT.kp UT.b .nil pass0 (@pa_cons _ _ _ _ _ (@pv _ 1 _ _ (by rfl) (by first | exact Or.inl rfl | exact Or.inr (Or.inl rfl) | exact Or.inr (Or.inr rfl)) (by decide) (by decide)) pa_nil (by rfl)) (by decide) (by rfl) (by rfl)) pa_nil (by rfl)) (by rfl)) (by decide) (by rfl) (by rfl))))), ?_⟩
  refine ⟨_, rfl, k, rfl, by lia, fun p hp => ?_⟩
  have s1 := same_new hp (.lst (nums (List.range (2 ^ k))))
  refine ⟨_, rfl, _, rfl, k, by lia, p, List.range (2 ^ k), rfl, atNew hp _, List.length_range, by lia, fun c lf le ps H2 s2 hc hf pr he => ?_⟩
  have eN : (⟨(List.range (2 ^ k)).length, (stairN k (List.range (2 ^ k))).1, (stairN k (List.range (2 ^ k))).2⟩ : Nt) = stairW k := by rw [List.length_range]; rfl
  refine ⟨p, c, lf, le, ps, _, List.range (2 ^ k), _, rfl, s2 _ _ (atNew hp _), hc, hf, pr, he, ⟨by rw [eN]; exact stair_ok (by lia), (few_ways k k5).2.1⟩, fun r' fr' er' ps' H' s' n' => ?_⟩
  rw [eN] at n'
  exact q r' fr' er' ps' H' ((s1.trans s2).trans s') n'
end
end K33
end
section
set_option maxHeartbeats 4000001
namespace K33
open PySem L2 Own Bn
abbrev sLaw : Stmt := top 34
def spLaw (K : PySem.W.Frag) : Sp := fun vs H Q _ => ∃ (a : Addr) (ns : List Int), vs = [.ref a] ∧ SqL K H a (ns.map V.int) ∧ ns.length ≤ 63 ∧ ∀ H', Q (.bl true) H'
def EvenAll (N : Nt) : Prop := ∀ d, IsTop N d → ∀ lane, lane < N.lanes → Even (endsM N (aloneL N.lanes lane (pw d)))
def flatB (xs : List Int) : Bool := xs.all fun x => x == xs.headD 0
theorem flatB_even {xs : List Int} (h : flatB xs = true) : Even xs := fun i j ij jl => by
  have h' : ∀ x ∈ xs, x = xs.headD 0 := fun x hx => by simpa using List.all_eq_true.mp h x hx
  rw [List.getD_eq_getElem?_getD, List.getD_eq_getElem?_getD, List.getElem?_eq_getElem (by lia), List.getElem?_eq_getElem jl]
  show xs[i] = xs[j]
  rw [h' _ (List.getElem_mem _), h' _ (List.getElem_mem _)]
theorem ev_ways : ∀ k, k < 4 → (∀ lane, lane < 2 ^ k → flatB (endsM (plainN (stairW k)) (aloneL (2 ^ k) lane (pw (k * (k + 1) / 2)))) = true ∧ flatB (endsM (plainN (roundsN k)) (aloneL (2 ^ k) lane (pw (k * k)))) = true) ∧ flatB (endsM (plainN (treeW k)) (aloneL (2 ^ k) 0 (pw k))) = true := by decide +kernel
theorem Told.top {N : Nt} {k due : Nat} (t : Told N k due) : IsTop N due := ⟨fun z hz => (t.dle z hz).2, t.din⟩
theorem stair_ev {k : Nat} (h : k < 4) : EvenAll (plainN (stairW k)) := fun d td lane hl => by
  have t := (stair_told (k := k) (by lia)).1
  obtain rfl := top_one td (Told.top t)
  rw [t.lanes] at hl ⊢
  exact flatB_even ((ev_ways k h).1 lane hl).1
theorem rounds_ev {k : Nat} (h : k < 4) : EvenAll (dueN k) := by
  rw [← rounds_due (k := k) (by lia)]
  intro d td lane hl
  have t := (rounds_told (k := k) (by lia)).1
  obtain rfl := top_one td (Told.top t)
  rw [t.lanes] at hl ⊢
  exact flatB_even ((ev_ways k h).1 lane hl).2
theorem tree_ev {k : Nat} (h : k < 4) : ∀ d, IsTop (plainN (treeW k)) d → Even (endsM (plainN (treeW k)) (aloneL (plainN (treeW k)).lanes 0 (pw d))) := fun d td => by
  have t := (tree_told (k := k) (by lia)).1
  obtain rfl := top_one td (Told.top t)
  rw [t.lanes]
  exact flatB_even (ev_ways _ h).2
theorem due_ok {k : Nat} (h : k < 5) : (dueN k).Ok := by rw [← rounds_due h]; exact (rounds_told h).1.ok
theorem ren_top {N : Nt} (ok : N.Ok) {ns : List Nat} (pm : ns.Perm (List.range N.lanes)) {d e : Nat} (td : IsTop N d) (te : IsTop (N.ren ns) e) : d = e := by
  have l : layers (N.ren ns) = layers N := layers_called ok pm
  have te' : IsTop N e := by unfold IsTop at te ⊢; rw [← l]; exact te
  exact top_one td te'
theorem first_not {xs : List Int} {one other : Nat} (f : FirstU xs one other) (e : Even xs) : False := f.2.2.1 (e one other f.1 f.2.1)
def rowD (xs : List Int) : PyData := .tuple (xs.map .int)
theorem eqv_ints : ∀ xs : List Int, PyData.eqvAll (xs.map .int) (xs.map .int) = true
  | [] => by simp [PyData.eqvAll]
  | x :: r => by
    have := eqv_ints r
    simp only [List.map_cons, PyData.eqvAll, PyData.eqv, beq_self_eq_true, Bool.true_and]
    exact this
theorem eqv_rowsD : ∀ l : List (List Int), PyData.eqvAll (l.map rowD) (l.map rowD) = true
  | [] => by simp [PyData.eqvAll]
  | x :: r => by
    have := eqv_rowsD r
    have e := eqv_ints x
    simp only [List.map_cons, PyData.eqvAll, rowD, PyData.eqv, e, Bool.true_and]
    exact this
theorem dd_rows {H : Hp} {a : Addr} {ss : List V} {n : Nat} {g : Nat → List Int} (h : H a = some (.lst ss)) (l : ss.length = n) (f : ∀ i, i < n → ∃ b, ss[i]? = some (.ref b) ∧ H b = some (.tup ((g i).map V.int))) : DD H 2 (.ref a) (.list (((List.range n).map g).map rowD)) := by
  refine DD.lst h (by rw [List.length_map, List.length_map, List.length_range]; exact l) fun j u e p q => ?_
  have jl : j < n := by have := (List.getElem?_eq_some_iff.mp p).1; lia
  obtain ⟨b, eb, hb⟩ := f j jl
  rw [List.getElem?_map, List.getElem?_map, List.getElem?_range jl] at q
  obtain rfl := Option.some.inj q
  rw [eb] at p
  obtain rfl := Option.some.inj p
  obtain ⟨x, y⟩ := dd_row (H := H) (n := 0) (f := V.int) (g := PyData.int) (l := g j) fun x _ => DD.i x
  exact DD.tup hb x y
theorem to_nums (n : Nat) : (if false = true then HO.lst (upTo n) else .tup (upTo n)) = HO.tup (nums (List.range n)) := by
  rw [if_neg (by decide)]; congr 1
theorem sqL_but {K : PySem.W.Frag} {H H1 H2 : Hp} {a l : Addr} {xs : List V} (h : SqL K H a xs) (hl : H l = none) (s : Same H H1) (B : But l H1 H2) : SqL K H2 a xs := by
  rcases h with (h | ⟨o, h⟩) | h
  · exact .inl (.inl (B _ _ (s _ _ h) (ne_of_none h hl)))
  · exact .inl (.inr ⟨o, B _ _ (s _ _ h) (ne_of_none h hl)⟩)
  · exact .inr h
theorem iteNF {A B : Prop} (h : B) : if (!true) = true then A else B := iteF h
section
variable {P : Program} {w : World} {K : PySem.W.Frag} {mg : Str → Option Value} {base : Heap}
theorem scW : FnScope ["_law_script", "_law_k", "_law_left_here", "_law_power", "_law_ways", "_law_net_here", "_law_told", "_law_names", "_law_lane", "_law_other"] ["_law_script"] (defScope sLaw) := ⟨rfl, rfl, rfl, by decide +kernel, rfl, by decide +kernel, by decide +kernel⟩
theorem ok_law {f fL fK fS fR fT fM fE fN fW fH fQ fG : Addr} {fd dL dK dS dR dT dM dE dN dW dH dQ dG : FuncData} (F : Fun K "law" "law" sLaw f fd) (G : Mgs mg) (UL : Use P w K mg base "_law_left" ["_law_script", "_law_k"] 2 (spLeft K) fL dL) (UK : Use P w K mg base "_law_pick" ["_law_left_here", "_law_many"] 1 spPick fK dK)
    (US : Use P w K mg base "stairway" ["k"] 12 spStairway fS dS) (UR : Use P w K mg base "rounds" ["k"] 6 spRounds fR dR) (UT : Use P w K mg base "tree" ["k"] 7 spTree fT dT) (UM : Use P w K mg base "merger" ["k"] 7 spMerger fM dM) (UE : Use P w K mg base "is_even" ["net", "some"] 5 spIsEven fE dE)
    (UN : Use P w K mg base "_law_net" ["_law_left_here", "_law_most"] 2 (spNet 60) fN dN) (UW : Use P w K mg base "_law_even_net" ["_law_left_here", "_law_most"] 2 spEven fW dW) (UH : Use P w K mg base "shares" ["net"] 3 spShares fH dH) (UQ : Use P w K mg base "_law_renamed" ["_law_net_here", "_law_names"] 1 spRen fQ dQ) (UG : Use P w K mg base "_law_right" ["_law_net_here", "_law_told"] 6 spRight fG dG) : FnOk P w K mg base CX0 13 f fd ["_law_script"] (spLaw K) := by
  refine F.ok scW (fun vs H Q E h => ?_) (fun cdv A outer s H vs Q E hr h => ?_)
  · obtain ⟨a, ns, rfl, _⟩ := h
    rfl
  obtain ⟨a, ns, rfl, hS, h63, kk⟩ := h
  have hr1 : Room 1 _ := hr.mono (by decide)
  have hr2 : Room 2 _ := hr.mono (by decide)
  have hr3 : Room 3 _ := hr.mono (by decide)
  have hr5 : Room 5 _ := hr.mono (by decide)
  have hr6 : Room 6 _ := hr.mono (by decide)
  have hr7 : Room 7 _ := hr.mono (by decide)
  refine ⟨_, (@pss_cons _ _ _ _ _ (@ps_for _ _ _ _ _ _ _ _ PassesOwn.never rfl (@pi_range1 _ _ _ _ _ _ rfl G.range (@pa_cons _ _ _ _ _ (@pe_callB _ _ _ _ _ _ _ _ _ (call_max2 rfl) (by rfl) G.max (by rfl) (@pa_cons _ _ _ _ _ pe_int (@pa_cons _ _ _ _ _ (@pe_callB _ _ _ _ _ _ _ _ _ (call_min2 rfl) (by rfl) G.min (by rfl) (@pa_cons _ _ _ _ _ pe_int (@pa_cons _ _ _ _ _ (@pe_callB _ _ _ _ _ _ _ _ _ call_len_seq (by rfl) G.len PySem.boot_len (@pa_cons _ _ _ _ _ (@pv _ 0 _ _ (by rfl) (by first | exact Or.inl rfl | exact Or.inr (Or.inl rfl) | exact Or.inr (Or.inr rfl)) (by decide) (by decide)) pa_nil (by rfl)) (by decide) (by decide) (by rfl) (by rfl)) pa_nil (by rfl)) (by rfl)) (by decide) (by decide) (by rfl) (by rfl)) pa_nil (by rfl)) (by rfl)) (by decide) (by decide) (by rfl) (by rfl)) pa_nil (by rfl)) (by rfl)) (@pg_name _ _ 1 _ scW.nd rfl (Or.inl rfl) (by first | exact .inl rfl | exact .inr rfl | assumption)) (@pss_cons _ _ _ _ _ (@ps_set _ _ 2 _ _ _ _ scW.nd rfl (Or.inl rfl) (@pe_call _ _ _ _ _ _ _ _ _ _ _ _ _ _ _ _ UL.ok hr2 (by rfl) UL.m UL.kp UL.b .nil pass0 (@pa_cons _ _ _ _ _ (@pv _ 0 _ _ (by rfl) (by first | exact Or.inl rfl | exact Or.inr (Or.inl rfl) | exact Or.inr (Or.inr rfl)) (by decide) (by decide)) (@pa_cons _ _ _ _ _ (@pv _ 1 _ _ (by rfl) (by first | exact Or.inl rfl | exact Or.inr (Or.inl rfl) | exact Or.inr (Or.inr rfl)) (by decide) (by decide)) pa_nil (by rfl)) (by rfl)) (by decide) (by rfl) (by rfl)) (by rfl) (by first | exact .inl rfl | exact .inr rfl | assumption)) (@pss_cons _ _ _ _ _ (@ps_set _ _ 3 _ _ _ _ scW.nd rfl (Or.inl rfl) (@pe_call _ _ _ _ _ _ _ _ _ _ _ _ _ _ _ _ UK.ok hr1 (by rfl) UK.m UK.kp UK.b .nil pass0 (@pa_cons _ _ _ _ _ (@pv _ 2 _ _ (by rfl) (by first | exact Or.inl rfl | exact Or.inr (Or.inl rfl) | exact Or.inr (Or.inr rfl)) (by decide) (by decide)) (@pa_cons _ _ _ _ _ pe_int pa_nil (by rfl)) (by rfl)) (by decide) (by rfl) (by rfl)) (by rfl) (by first | exact .inl rfl | exact .inr rfl | assumption)) (@pss_cons _ _ _ _ _ (@ps_set _ _ 4 _ _ _ _ scW.nd rfl (Or.inl rfl) (@pe_lst _ _ _ _ (@pa_cons _ _ _ _ _ (@pe_call _ _ _ _ _ _ _ _ _ _ _ _ _ _ _ _ US.ok hr (by rfl) US.m US.kp US.b .nil pass0 (@pa_cons _ _ _ _ _ (@pv _ 3 _ _ (by rfl) (by first | exact Or.inl rfl | exact Or.inr (Or.inl rfl) | exact Or.inr (Or.inr rfl)) (by decide) (by decide)) pa_nil (by rfl)) (by decide) (by rfl) (by rfl)) (@pa_cons _ _ _ _ _ (@pe_call _ _ _ _ _ _ _ _ _ _ _ _ _ _ _ _ UR.ok hr6 (by rfl) UR.m UR.kp UR.b .nil pass0 (@pa_cons _ _ _ _ _ (@pv _ 3 _ _ (by rfl) (by first | exact Or.inl rfl | exact Or.inr (Or.inl rfl) | exact Or.inr (Or.inr rfl)) (by decide) (by decide)) pa_nil (by rfl)) (by decide) (by rfl) (by rfl)) (@pa_cons _ _ _ _ _ (@pe_call _ _ _ _ _ _ _ _ _ _ _ _ _ _ _ _ UT.ok hr7 (by rfl) UT.m UT.kp UT.b .nil pass0 (@pa_cons _ _ _ _ _ (@pv _ 3 _ _ (by rfl) (by first | exact Or.inl rfl | exact Or.inr (Or.inl rfl) | exact Or.inr (Or.inr rfl)) (by decide) (by decide)) pa_nil (by rfl)) (by decide) (by rfl) (by rfl)) (@pa_cons _ _ _ _ _ (@pe_call _ _ _ _ _ _ _ _ _ _ _ _ _ _ _ _ UM.ok hr7 (by rfl) UM.m UM.kp UM.b .nil pass0 (@pa_cons _ _ _ _ _ (@pe_callB _ _ _ _ _ _ _ _ _ (call_max2 rfl) (by rfl) G.max (by rfl) (@pa_cons _ _ _ _ _ pe_int (@pa_cons _ _ _ _ _ (@pv _ 3 _ _ (by rfl) (by first | exact Or.inl rfl | exact Or.inr (Or.inl rfl) | exact Or.inr (Or.inr rfl)) (by decide) (by decide)) pa_nil (by rfl)) (by rfl)) (by decide) (by decide) (by rfl) (by rfl)) pa_nil (by rfl)) (by decide) (by rfl) (by rfl)) pa_nil (by rfl)) (by rfl)) (by rfl)) (by rfl))) (by rfl) (by first | exact .inl rfl | exact .inr rfl | assumption)) (@pss_cons _ _ _ _ _ (@ps_if _ _ _ _ _ _ _ _ (PW.pt (@pw_or _ _ _ _ _ _ _ (@pt_not _ _ _ _ (@pt_val _ _ _ (@pe_callB _ _ _ _ _ _ _ _ _ (call_allB rfl true) (by rfl) G.all (by rfl) (@pa_cons _ _ _ _ _ (@pe_lc _ _ _ _ none _ _ _ _ _ _ ["_law_net_here"] [none] rfl (@pi_list _ _ _ _ (@pe_slice _ _ _ _ _ _ _ _ _ _ sl_list (@pv _ 4 _ _ (by rfl) (by first | exact Or.inl rfl | exact Or.inr (Or.inl rfl) | exact Or.inr (Or.inr rfl)) (by decide) (by decide)) po_none (@po_some _ _ _ pe_int))) (CapOk.of (by kernel_rfl)) (fun _ _ _ _ _ => (@pg_name _ _ 0 _ (show (["_law_net_here"] : List Str).Nodup from by decide +kernel) rfl (Or.inl rfl) (Or.inr rfl))) (fun _ _ _ _ _ => pt_none) (fun _ _ _ _ _ => (@pe_call _ _ _ _ _ _ _ _ _ _ _ _ _ _ _ _ UE.ok hr5 (by rfl) UE.m UE.kp UE.b .nil pass0 (@pa_cons _ _ _ _ _ (@pv _ 0 _ _ (by rfl) (by first | exact Or.inl rfl | exact Or.inr (Or.inl rfl) | exact Or.inr (Or.inr rfl)) (by decide) (by decide)) (@pa_cons _ _ _ _ _ (@pe_tupRng _ _ _ _ _ _ _ rfl (by rfl) G.tuple (by rfl) G.range (@pa_cons _ _ _ _ _ (@pe_ix _ _ _ _ _ _ (rIxT K) ix_tup (@pv _ 0 _ _ (by rfl) (by first | exact Or.inl rfl | exact Or.inr (Or.inl rfl) | exact Or.inr (Or.inr rfl)) (by decide) (by decide)) pe_int (fun _ _ => rfl)) pa_nil (by rfl)) (by rfl) (by rfl)) pa_nil (by rfl)) (by rfl)) (by decide) (by rfl) (by rfl))) (by intro _; rfl)) pa_nil (by rfl)) (by decide) (by decide) (by rfl) (by rfl)) (by intro _; rfl))) (@pw_or1 _ _ _ _ (@pt_not _ _ _ _ (@pt_truth _ _ _ (@pe_call _ _ _ _ _ _ _ _ _ _ _ _ _ _ _ _ UE.ok hr5 (by rfl) UE.m UE.kp UE.b .nil pass0 (@pa_cons _ _ _ _ _ (@pe_ix _ _ _ _ _ _ _ ix_list (@pv _ 4 _ _ (by rfl) (by first | exact Or.inl rfl | exact Or.inr (Or.inl rfl) | exact Or.inr (Or.inr rfl)) (by decide) (by decide)) pe_int (fun _ _ => rfl)) (@pa_cons _ _ _ _ _ (@pe_tup _ _ _ _ _ (@pa_cons _ _ _ _ _ pe_int pa_nil (by rfl))) pa_nil (by rfl)) (by rfl)) (by decide) (by rfl) (by rfl)) (fun _ => rfl)))))) (@pss_one _ _ _ (@ps_ret _ _ _ _ pe_bl)) pss_nil) (@pss_one _ _ _ (@ps_for _ _ _ _ _ _ _ _ PassesOwn.never rfl (@pi_list _ _ _ _ (@pe_lst _ _ _ _ (@pa_cons _ _ _ _ _ (@pe_call _ _ _ _ _ _ _ _ _ _ _ _ _ _ _ _ UN.ok hr2 (by rfl) UN.m UN.kp UN.b .nil pass0 (@pa_cons _ _ _ _ _ (@pv _ 2 _ _ (by rfl) (by first | exact Or.inl rfl | exact Or.inr (Or.inl rfl) | exact Or.inr (Or.inr rfl)) (by decide) (by decide)) (@pa_cons _ _ _ _ _ pe_int pa_nil (by rfl)) (by rfl)) (by decide) (by rfl) (by rfl)) (@pa_cons _ _ _ _ _ (@pe_call _ _ _ _ _ _ _ _ _ _ _ _ _ _ _ _ UW.ok hr2 (by rfl) UW.m UW.kp UW.b .nil pass0 (@pa_cons _ _ _ _ _ (@pv _ 2 _ _ (by rfl) (by first | exact Or.inl rfl | exact Or.inr (Or.inl rfl) | exact Or.inr (Or.inr rfl)) (by decide) (by decide)) (@pa_cons _ _ _ _ _ pe_int pa_nil (by rfl)) (by rfl)) (by decide) (by rfl) (by rfl)) (@pa_cons _ _ _ _ _ (@pe_ix _ _ _ _ _ _ _ ix_list (@pv _ 4 _ _ (by rfl) (by first | exact Or.inl rfl | exact Or.inr (Or.inl rfl) | exact Or.inr (Or.inr rfl)) (by decide) (by decide)) (@pe_call _ _ _ _ _ _ _ _ _ _ _ _ _ _ _ _ UK.ok hr1 (by rfl) UK.m UK.kp UK.b .nil pass0 (@pa_cons _ _ _ _ _ (@pv _ 2 _ _ (by rfl) (by first | exact Or.inl rfl | exact Or.inr (Or.inl rfl) | exact Or.inr (Or.inr rfl)) (by decide) (by decide)) (@pa_cons _ _ _ _ _ pe_int pa_nil (by rfl)) (by rfl)) (by decide) (by rfl) (by rfl)) (fun _ _ => rfl)) pa_nil (by rfl)) (by rfl)) (by rfl)))) (@pg_name _ _ 5 _ scW.nd rfl (Or.inl rfl) (by first | exact .inl rfl | exact .inr rfl | assumption)) (@pss_cons _ _ _ _ _ (@ps_set _ _ 6 _ _ _ _ scW.nd rfl (Or.inl rfl) (@pe_call _ _ _ _ _ _ _ _ _ _ _ _ _ _ _ _ UH.ok hr3 (by rfl) UH.m UH.kp UH.b .nil pass0 (@pa_cons _ _ _ _ _ (@pv _ 5 _ _ (by rfl) (by first | exact Or.inl rfl | exact Or.inr (Or.inl rfl) | exact Or.inr (Or.inr rfl)) (by decide) (by decide)) pa_nil (by rfl)) (by decide) (by rfl) (by rfl)) (by rfl) (by first | exact .inl rfl | exact .inr rfl | assumption)) (@pss_cons _ _ _ _ _ (@ps_set _ _ 7 _ _ _ _ scW.nd rfl (Or.inr rfl) (@pe_lst _ _ _ _ pa_nil) (by rfl) (by first | exact .inl rfl | exact .inr rfl | assumption)) (@pss_cons _ _ _ _ _ (@ps_for _ _ _ _ _ _ _ _ PassesOwn.never rfl (@pi_range1 _ _ _ _ _ _ rfl G.range (@pa_cons _ _ _ _ _ (@pe_ix _ _ _ _ _ _ _ ix_tup (@pv _ 5 _ _ (by rfl) (by first | exact Or.inl rfl | exact Or.inr (Or.inl rfl) | exact Or.inr (Or.inr rfl)) (by decide) (by decide)) pe_int (fun _ _ => rfl)) pa_nil (by rfl)) (by rfl)) (@pg_name _ _ 8 _ scW.nd rfl (Or.inl rfl) (by first | exact .inl rfl | exact .inr rfl | assumption)) (@pss_one _ _ _ (@ps_expr _ _ _ _ (@pe_bm _ _ _ _ _ _ _ _ _ _ _ _ PySem.F.plainAttrs_list PySem.F.slot_list_insert PySem.F.type_list_insert mt_insert (@pv _ 7 _ _ (by rfl) (by first | exact Or.inl rfl | exact Or.inr (Or.inl rfl) | exact Or.inr (Or.inr rfl)) (by decide) (by decide)) (@pa_cons _ _ _ _ _ (@pe_call _ _ _ _ _ _ _ _ _ _ _ _ _ _ _ _ UK.ok hr1 (by rfl) UK.m UK.kp UK.b .nil pass0 (@pa_cons _ _ _ _ _ (@pv _ 2 _ _ (by rfl) (by first | exact Or.inl rfl | exact Or.inr (Or.inl rfl) | exact Or.inr (Or.inr rfl)) (by decide) (by decide)) (@pa_cons _ _ _ _ _ (@pe_op _ _ _ _ _ _ _ _ op_add (@pe_callB _ _ _ _ _ _ _ _ _ call_len_seq (by rfl) G.len PySem.boot_len (@pa_cons _ _ _ _ _ (@pv _ 7 _ _ (by rfl) (by first | exact Or.inl rfl | exact Or.inr (Or.inl rfl) | exact Or.inr (Or.inr rfl)) (by decide) (by decide)) pa_nil (by rfl)) (by decide) (by decide) (by rfl) (by rfl)) pe_int) pa_nil (by rfl)) (by rfl)) (by decide) (by rfl) (by rfl)) (@pa_cons _ _ _ _ _ (@pv _ 8 _ _ (by rfl) (by first | exact Or.inl rfl | exact Or.inr (Or.inl rfl) | exact Or.inr (Or.inr rfl)) (by decide) (by decide)) pa_nil (by rfl)) (by rfl)) (by rfl) (by rfl) (by rfl) (by rfl) (by rfl)) (by rfl))) (by intro _; rfl)) (@pss_cons _ _ _ _ _ (@ps_set _ _ 9 _ _ _ _ scW.nd rfl (Or.inr rfl) (@pe_call _ _ _ _ _ _ _ _ _ _ _ _ _ _ _ _ UH.ok hr3 (by rfl) UH.m UH.kp UH.b .nil pass0 (@pa_cons _ _ _ _ _ (@pe_call _ _ _ _ _ _ _ _ _ _ _ _ _ _ _ _ UQ.ok hr1 (by rfl) UQ.m UQ.kp UQ.b .nil pass0 (@pa_cons _ _ _ _ _ (@pv _ 5 _ _ (by rfl) (by first | exact Or.inl rfl | exact Or.inr (Or.inl rfl) | exact Or.inr (Or.inr rfl)) (by decide) (by decide)) (@pa_cons _ _ _ _ _ (@pv _ 7 _ _ (by rfl) (by first | exact Or.inl rfl | exact Or.inr (Or.inl rfl) | exact Or.inr (Or.inr rfl)) (by decide) (by decide)) pa_nil (by rfl)) (by rfl)) (by decide) (by rfl) (by rfl)) pa_nil (by rfl)) (by decide) (by rfl) (by rfl)) (by rfl) (by first | exact .inl rfl | exact .inr rfl | assumption)) (@pss_one _ _ _ (@ps_if _ _ _ _ _ _ _ _ (PW.pt (@pw_or _ _ _ _ _ _ _ (@pt_not _ _ _ _ (@pt_truth _ _ _ (@pe_call _ _ _ _ _ _ _ _ _ _ _ _ _ _ _ _ UG.ok hr6 (by rfl) UG.m UG.kp UG.b .nil pass0 (@pa_cons _ _ _ _ _ (@pv _ 5 _ _ (by rfl) (by first | exact Or.inl rfl | exact Or.inr (Or.inl rfl) | exact Or.inr (Or.inr rfl)) (by decide) (by decide)) (@pa_cons _ _ _ _ _ (@pv _ 6 _ _ (by rfl) (by first | exact Or.inl rfl | exact Or.inr (Or.inl rfl) | exact Or.inr (Or.inr rfl)) (by decide) (by decide)) pa_nil (by rfl)) (by rfl)) (by decide) (by rfl) (by rfl)) (fun _ => rfl))) (@pw_or1 _ _ _ _ (@pt_cmpR _ _ _ _ _ _ _ _ (op_neX hr.units) (@pe_lc _ _ _ _ none _ _ _ _ _ _ ["_law_lane", "_law_other", "_law_names"] [none, some 9, some 7] rfl (@pi_range1 _ _ _ _ _ _ rfl G.range (@pa_cons _ _ _ _ _ (@pe_ix _ _ _ _ _ _ _ ix_tup (@pv _ 5 _ _ (by rfl) (by first | exact Or.inl rfl | exact Or.inr (Or.inl rfl) | exact Or.inr (Or.inr rfl)) (by decide) (by decide)) pe_int (fun _ _ => rfl)) pa_nil (by rfl)) (by rfl)) (CapOk.of (by kernel_rfl)) (fun _ _ _ _ _ => (@pg_name _ _ 0 _ (show (["_law_lane", "_law_other", "_law_names"] : List Str).Nodup from by decide +kernel) rfl (Or.inl rfl) (Or.inr rfl))) (fun _ _ _ _ _ => pt_none) (fun _ _ _ _ _ => (@pe_ix _ _ _ _ _ _ (rIxT K) ix_tup (@pv _ 1 _ _ (by rfl) (by first | exact Or.inl rfl | exact Or.inr (Or.inl rfl) | exact Or.inr (Or.inr rfl)) (by decide) (by decide)) (@pe_ix _ _ _ _ _ _ (rIxL K) ix_list (@pv _ 2 _ _ (by rfl) (by first | exact Or.inl rfl | exact Or.inr (Or.inl rfl) | exact Or.inr (Or.inr rfl)) (by decide) (by decide)) (@pv _ 0 _ _ (by rfl) (by first | exact Or.inl rfl | exact Or.inr (Or.inl rfl) | exact Or.inr (Or.inr rfl)) (by decide) (by decide)) (fun _ _ => rfl)) (fun _ _ => rfl))) (by intro _; rfl)) (@pe_callTy _ _ _ _ _ _ _ _ _ call_list_of (by rfl) G.list (by rfl) (@pa_cons _ _ _ _ _ (@pv _ 6 _ _ (by rfl) (by first | exact Or.inl rfl | exact Or.inr (Or.inl rfl) | exact Or.inr (Or.inr rfl)) (by decide) (by decide)) pa_nil (by rfl)) (by decide) (by decide) (by rfl) (by rfl)) (nomark _))))) (@pss_one _ _ _ (@ps_ret _ _ _ _ pe_bl)) pss_nil)))))) (by intro _; rfl))))))) (by intro _; rfl)) (@pss_one _ _ _ (@ps_ret _ _ _ _ pe_bl))), ?_⟩
  refine ⟨_, rfl, a, _, rfl, .inl hS, _, _, rfl, _, _, rfl, _, rfl, ?_, ?_, ?_⟩
  · split <;> split <;> lia
  · rw [List.length_map]; split <;> split <;> lia
  refine for_range (lo := 0) (fun i σ H2 => (∃ v1 v2 v3 v4 v5 v6 v7 v8 v9, σ = [some (.ref a), v1, v2, v3, v4, v5, v6, v7, v8, v9]) ∧ SqL K H2 a (ns.map V.int)) ⟨⟨_, _, _, _, _, _, _, _, _, rfl⟩, hS⟩ ?_ (fun σ H2 _ => kk H2)
  rintro i σ H2 hi ⟨⟨v1, v2, v3, v4, v5, v6, v7, v8, v9, rfl⟩, hS2⟩
  have ib : i < 31 := by
    have : (if (if ((ns.map V.int).length : Int) < 20 then ((ns.map V.int).length : Int) else 20) > 6 then (if ((ns.map V.int).length : Int) < 20 then ((ns.map V.int).length : Int) else 20) else 6) ≤ 30 := by split <;> split <;> lia
    lia
  refine ⟨_, rfl, _, rfl, a, ns, _, rfl, hS2, h63, by lia, by lia, fun l H3 hl s3 S3 => ?_⟩
  refine ⟨_, rfl, l, 4, rfl, by decide, by decide, S3, fun k H4 k4 S4 B4 => ?_⟩
  have k4 : k < 4 := by lia
  have k5 : k < 5 := by lia
  refine ⟨_, rfl, k, rfl, k4, fun r1 fr1 er1 ps1 H5 s5 n1 => ?_⟩
  refine ⟨_, rfl, k, rfl, k4, fun r2 fr2 er2 ps2 H6 s6 n2 => ?_⟩
  refine ⟨_, rfl, k, rfl, k4, fun r3 fr3 er3 ps3 H7 s7 n3 => ?_⟩
  refine ⟨_, rfl, _, _, rfl, k - 1, ?_, by lia, fun r4 fr4 er4 ps4 H8 s8 n4 => ?_⟩
  · have : (if ((k : Nat) : Int) > 1 then ((k : Nat) : Int) else 1) = ((k - 1 + 1 : Nat) : Int) := by split <;> lia
    rw [this]; rfl
  refine ⟨(by show 4 ≤ sizeLine; decide), fun lw hlw => ?_⟩
  have sw := same_new hlw (.lst [.ref r1, .ref r2, .ref r3, .ref r4])
  have hw0 : L2.upd H8 lw (.lst [.ref r1, .ref r2, .ref r3, .ref r4]) lw = some (.lst [.ref r1, .ref r2, .ref r3, .ref r4]) := upd_same
  have u9 := (((s5.trans s6).trans s7).trans s8).trans sw
  have S9 := S4.keep u9
  have nlw : lw ≠ l := ((S4.keep (((s5.trans s6).trans s7).trans s8)).ne hlw).symm
  have m1 := n1.tups (Tups.of (((s6.trans s7).trans s8).trans sw))
  have m2 := n2.tups (Tups.of ((s7.trans s8).trans sw))
  have m3 := n3.tups (Tups.of (s8.trans sw))
  have m4 := n4.tups (Tups.of sw)
  have o1 := (stair_told k5).1.ok
  have o2 := due_ok k5
  have o3 := (tree_told k5).1.ok
  have o4 := (merge_told (m := k - 1) (by lia)).1.ok
  have B9 := B4.trans (But.of u9)
  generalize L2.upd H8 lw (.lst [.ref r1, .ref r2, .ref r3, .ref r4]) = H9 at *
  clear u9 sw n1 n2 n3 n4 s5 s6 s7 s8
  refine ⟨_, rfl, _, rfl, lw, _, rfl, SqL.of hw0, fun lq hlq => ?_⟩
  have cut2 : cutV [V.ref r1, .ref r2, .ref r3, .ref r4] none (some 2) = [V.ref r1, .ref r2] := rfl
  rw [cut2]
  have sq := same_new hlq (.lst [.ref r1, .ref r2])
  have hq0 : L2.upd H9 lq (.lst [.ref r1, .ref r2]) lq = some (.lst [.ref r1, .ref r2]) := upd_same
  generalize L2.upd H9 lq (.lst [.ref r1, .ref r2]) = H10 at *
  refine ⟨lq, rfl, ⟨_, SqL.of hq0⟩, fun lv hlv => ?_⟩
  refine lc_list (K := K) (a := lq) (xs := [.ref r1, .ref r2]) (fun j acc σ H11 => (∃ v0, σ = [v0]) ∧ Same H10 H11 ∧ H11 lv = some (.lst acc) ∧ acc = (List.replicate j true).map V.bl) ⟨⟨_, rfl⟩, same_new hlv _, upd_same, rfl⟩ (fun j acc σ H11 z => ⟨z.2.2.1, SqL.of (z.2.1 _ _ hq0)⟩) ?_ ?_
  · rintro j x acc σ H11 hx ⟨⟨v0, rfl⟩, s11, h11, rfl⟩
    have jl := (List.getElem?_eq_some_iff.mp hx).1
    obtain ⟨r, fr, er, ps, N, rfl, ok, na, ev⟩ : ∃ r fr er ps N, x = .ref r ∧ Nt.Ok N ∧ NetAt H11 r fr er ps N ∧ EvenAll N := by
      rcases j with _ | _ | j
      · obtain rfl := Option.some.inj hx
        exact ⟨r1, fr1, er1, ps1, _, rfl, o1, m1.tups (Tups.of (sq.trans s11)), stair_ev k4⟩
      · obtain rfl := Option.some.inj hx
        exact ⟨r2, fr2, er2, ps2, _, rfl, o2, m2.tups (Tups.of (sq.trans s11)), rounds_ev k4⟩
      · simp only [List.length_cons, List.length_nil] at jl; lia
    have l16 := ok.l16
    refine ⟨_, rfl, _, rfl, r, _, _, _, rfl, rfl, SqT.of na.net, rfl, N.lanes, rfl, by lia, fun q hq => ?_⟩
    have s12 := same_new hq (if false = true then HO.lst (upTo N.lanes) else .tup (upTo N.lanes))
    refine ⟨r, fr, er, ps, N, q, List.range N.lanes, rfl, ok, na.tups (Tups.of s12), by rw [upd_same, to_nums], fun x hx => List.mem_range.mp hx, fun d H13 tp _ s13 => ?_, fun d k2 hk2 one other H13 tp _ fu _ => ?_⟩
    · have u := (s11.trans s12).trans s13
      refine ⟨s13 _ _ (s12 _ _ h11), ?_, nx jl ⟨⟨_, rfl⟩, fun b o e => ?_, upd_same, ?_⟩⟩
      · rw [List.length_map, List.length_replicate]; exact Nat.lt_trans jl (by show 2 < sizeLine; decide)
      · rw [upd_ne (ne_of_none e hlv)]; exact u b o e
      · rw [List.replicate_succ', List.map_append]; rfl
    · rw [List.getElem_range] at fu
      exact (first_not fu (ev d tp k2 (by rwa [List.length_range] at hk2))).elim
  rintro acc σ H11 ⟨⟨v0, rfl⟩, s11, h11, rfl⟩
  refine ⟨lv, _, rfl, SqL.of h11, _, rfl, ?_⟩
  rw [trues]
  refine iteF ?_
  have u11 := sq.trans s11
  refine ⟨_, rfl, lw, _, _, _, rfl, rfl, SqL.of (u11 _ _ hw0), rfl, (by show 1 ≤ sizeLine; decide), fun q hq => ?_⟩
  have s12 := same_new hq (.tup [.int 0])
  have u12 := u11.trans s12
  have l1 := o3.l1
  refine ⟨r3, fr3, er3, ps3, _, q, [0], rfl, o3, m3.tups (Tups.of u12), upd_same, fun x hx => by rw [List.mem_singleton.mp hx]; lia, fun d H13 tp _ s13 => ?_, fun d k2 hk2 one other H13 tp _ fu _ => ?_⟩
  rotate_left
  · have k0 : k2 = 0 := by have : k2 < 1 := hk2; lia
    subst k0
    exact (first_not fu (tree_ev k4 d tp)).elim
  refine ⟨true, rfl, iteNF ?_⟩
  have u13 := u12.trans s13
  have S13 := S9.keep u13
  have hw13 := u13 _ _ hw0
  have m1 := m1.tups (Tups.of u13)
  have m2 := m2.tups (Tups.of u13)
  have m3 := m3.tups (Tups.of u13)
  have m4 := m4.tups (Tups.of u13)
  have B13 := B9.trans (But.of u13)
  clear u11 u12 u13 s11 s12 s13 sq hq0 h11 hlq hlv hq
  refine ⟨_, rfl, l, rfl, S13, fun r5 fr5 er5 ps5 N5 H14 ok5 n5 S14 B14 => ?_⟩
  refine ⟨_, rfl, l, rfl, S14, fun r6 fr6 er6 ps6 N6 H15 ok6 n6 S15 B15 => ?_⟩
  have T14 := B14.tups S13
  have T15 := B15.tups S14
  refine ⟨_, rfl, _, rfl, l, 4, rfl, by decide, by decide, S15, fun v H16 hv S16 B16 => ?_⟩
  have T16 := B16.tups S15
  have T := (T14.trans T15).trans T16
  have hw16 := B16 _ _ (B15 _ _ (B14 _ _ hw13 nlw) nlw) nlw
  obtain ⟨r7, fr7, er7, ps7, N7, hat, ok7, n7⟩ : ∃ r fr er ps N, atI [V.ref r1, .ref r2, .ref r3, .ref r4] ((v : Nat) : Int) = some (.ref r) ∧ Nt.Ok N ∧ NetAt H16 r fr er ps N := by
    have v4 : v < 4 := by lia
    rcases v with _ | _ | _ | _ | v
    · exact ⟨r1, fr1, er1, ps1, _, rfl, o1, m1.tups T⟩
    · exact ⟨r2, fr2, er2, ps2, _, rfl, o2, m2.tups T⟩
    · exact ⟨r3, fr3, er3, ps3, _, rfl, o3, m3.tups T⟩
    · exact ⟨r4, fr4, er4, ps4, _, rfl, o4, m4.tups T⟩
    · lia
  refine ⟨lw, _, _, _, rfl, rfl, SqL.of hw16, hat, (by show 3 ≤ sizeLine; decide), fun lx hlx => ?_⟩
  have sx := same_new hlx (.lst [.ref r5, .ref r6, .ref r7])
  have S17 := S16.keep sx
  have n5 := ((n5.tups T15).tups T16).tups (Tups.of sx)
  have n6 := (n6.tups T16).tups (Tups.of sx)
  have n7 := n7.tups (Tups.of sx)
  have nx' : lx ≠ l := (S16.ne hlx).symm
  have hx0 : L2.upd H16 lx (.lst [.ref r5, .ref r6, .ref r7]) lx = some (.lst [.ref r5, .ref r6, .ref r7]) := upd_same
  have B17 : But l H3 (L2.upd H16 lx (.lst [.ref r5, .ref r6, .ref r7])) := (((B13.trans B14).trans B15).trans B16).trans (But.of sx)
  refine ⟨lx, rfl, ⟨_, SqL.of hx0⟩, ?_⟩
  generalize L2.upd H16 lx (.lst [.ref r5, .ref r6, .ref r7]) = H17 at *
  clear m1 m2 m3 m4 T14 T15 T16 T hw16 hw13 hw0 hat B9 B13 B14 B15 B16 B4
  refine for_list (K := K) (a := lx) (xs := [.ref r5, .ref r6, .ref r7]) (fun j σ H18 => (∃ v5 v6 v7 v8 v9, σ = [some (.ref a), some (.int (0 + (i : Nat))), some (.ref l), some (.int k), some (.ref lw), v5, v6, v7, v8, v9]) ∧ PkAt H18 l ∧ But l H17 H18) ⟨⟨_, _, _, _, _, rfl⟩, S17, But.of (Same.refl _)⟩ (fun j σ H18 _ q => SqL.of (q.2.2 _ _ hx0 nx')) ?_ ?_
  rotate_left
  · rintro σ H18 ⟨⟨v5, v6, v7, v8, v9, rfl⟩, S18, B18⟩
    exact ⟨⟨_, _, _, _, _, _, _, _, _, rfl⟩, sqL_but hS2 hl s3 (B17.trans B18)⟩
  rintro j x σ H18 hx ⟨⟨v5, v6, v7, v8, v9, rfl⟩, S18, B18⟩
  obtain ⟨r, fr, er, ps, N, rfl, ok, na⟩ : ∃ r fr er ps N, x = .ref r ∧ Nt.Ok N ∧ NetAt H18 r fr er ps N := by
    have jl := (List.getElem?_eq_some_iff.mp hx).1
    simp only [List.length_cons, List.length_nil] at jl
    rcases j with _ | _ | _ | j
    · obtain rfl := Option.some.inj hx
      exact ⟨r5, fr5, er5, ps5, N5, rfl, ok5, n5.tups (B18.tups S17)⟩
    · obtain rfl := Option.some.inj hx
      exact ⟨r6, fr6, er6, ps6, N6, rfl, ok6, n6.tups (B18.tups S17)⟩
    · obtain rfl := Option.some.inj hx
      exact ⟨r7, fr7, er7, ps7, N7, rfl, ok7, n7.tups (B18.tups S17)⟩
    · lia
  have l1 := ok.l1
  have l16 := ok.l16
  refine ⟨_, rfl, r, fr, er, ps, N, rfl, ok, na, fun p d ss H19 s19 tp hp sl hs => ?_⟩
  have sh : ShAt H19 p ss N d := ⟨hp, sl, hs⟩
  have S19 := S18.keep s19
  have na19 := na.tups (Tups.of s19)
  refine ⟨(by show 0 ≤ sizeLine; decide), fun ln hln => ?_⟩
  have nln := S19.ne hln
  have B19 : But l H17 H19 := B18.trans (But.of s19)
  have fln := B19.frs hln
  refine ⟨_, rfl, r, _, _, _, rfl, rfl, SqT.of (na19.tups (Tups.of (same_new hln _))).net, rfl, N.lanes, rfl, by lia, by lia, ?_⟩
  refine for_range (lo := 0) (n := ((N.lanes : Nat) : Int).toNat) (fun i' σ H20 => (∃ v8 v9, σ = [some (.ref a), some (.int (0 + (i : Nat))), some (.ref l), some (.int k), some (.ref lw), some (.ref r), some (.ref p), some (.ref ln), v8, v9]) ∧ PkAt H20 l ∧ But l H17 H20 ∧ Tups H19 H20 ∧ ∃ es : List Nat, H20 ln = some (.lst (nums es)) ∧ es.Perm (List.range i'))
    ⟨⟨_, _, rfl⟩, S19.upd nln, B19.upd fln, Tups.of (same_new hln _), [], upd_same, .nil⟩ ?_ ?_
  · rintro i' σ H20 hi' ⟨⟨v8, v9, rfl⟩, S20, B20, T20, es, h20, pe⟩
    have il : i' < N.lanes := by lia
    have el : es.length = i' := by rw [pe.length_eq, List.length_range]
    refine ⟨_, rfl, .inl ⟨rfl, _, SqL.of h20⟩, _, rfl, _, rfl, ln, _, rfl, .inl (SqL.of h20), _, _, rfl, rfl, l, _, rfl, by lia, by rw [nums_len]; lia, S20, fun v H21 hv S21 B21 => ?_⟩
    have h21 := B21 ln _ h20 nln.symm
    rw [nums_len] at hv
    refine ⟨_, rfl, ln, _, _, v, rfl, rfl, h21, by rw [nums_len]; lia, by rw [nums_len]; lia, ⟨_, _, rfl⟩, S21.upd nln, (B20.trans B21).upd fln, (T20.trans (B21.tups S20)).trans (Tups.lst h21), es.take v ++ i' :: es.drop v, ?_, ins_perm pe⟩
    rw [upd_same, Int.zero_add, nums_ins]
  rintro σ H20 ⟨⟨v8, v9, rfl⟩, S20, B20, T20, es, h20, pm⟩
  rw [show ((N.lanes : Nat) : Int).toNat = N.lanes from by lia] at pm
  have nl := nm_len pm
  have na20 := na19.tups T20
  have sh20 : ShAt H20 p ss N d := ⟨T20 _ _ hp, sl, fun lane h => let ⟨b, e, hb⟩ := hs lane h; ⟨b, e, T20 _ _ hb⟩⟩
  refine ⟨_, rfl, _, rfl, r, fr, er, ps, N, ln, es, rfl, ok, na20, h20, pm, fun r' fr' er' ps' H21 s21 n' => ?_⟩
  refine ⟨r', fr', er', ps', N.ren es, rfl, ren_ok ok pm, n', fun p2 d2 ss2 H22 s22 tp2 hp2 sl2 hs2 => ?_⟩
  obtain rfl := ren_top ok pm tp tp2
  have u22 := s21.trans s22
  refine ⟨_, rfl, _, rfl, r, fr, er, ps, N, p, d, ss, rfl, ok, na20.tups (Tups.of u22), tp, sh20.keep u22, fun H23 s23 => ⟨true, rfl, iteNF ?_⟩⟩
  have u23 := u22.trans s23
  have na23 := na20.tups (Tups.of u23)
  have h23 := u23 _ _ h20
  have hp23 := s23 _ _ hp2
  refine ⟨_, rfl, r, _, _, _, rfl, rfl, SqT.of na23.net, rfl, N.lanes, rfl, by lia, by lia, fun lq hlq => ?_⟩
  refine lc_range (lo := 0) (n := ((N.lanes : Nat) : Int).toNat) (fun j acc σ H24 => (∃ v, σ = [v, some (.ref p2), some (.ref ln)]) ∧ Same H23 H24 ∧ H24 lq = some (.lst acc) ∧ acc.length = j ∧ ∀ lane, lane < j → ∃ b, acc[lane]? = some (.ref b) ∧ H24 b = some (.tup ((endsM N (aloneL N.lanes lane (pw d))).map V.int))) ⟨⟨_, rfl⟩, same_new hlq _, upd_same, rfl, fun lane h => absurd h (Nat.not_lt_zero _)⟩ (fun j acc σ H24 q => q.2.2.1) ?_ ?_
  · rintro j acc σ H24 hj ⟨⟨v, rfl⟩, s24, h24, al, ha⟩
    have jl : j < N.lanes := by lia
    rw [Int.zero_add]
    have nlt : nm es j < N.lanes := by
      rw [← nm_get (by lia)]; exact List.mem_range.mp (pm.mem_iff.mp (List.getElem_mem _))
    obtain ⟨b, eb, hb⟩ := hs2 (nm es j) nlt
    have hb24 := s24 _ _ (s23 _ _ hb)
    have er : endsM (N.ren es) (aloneL (N.ren es).lanes (nm es j) (pw d)) = endsM N (aloneL N.lanes j (pw d)) := share_renamed ok pm jl (pw d)
    rw [er] at hb24
    refine ⟨_, rfl, _, rfl, _, rfl, ln, _, _, _, rfl, rfl, SqL.of (s24 _ _ h23), at_nums (by lia), p2, _, _, _, rfl, rfl, SqT.of (s24 _ _ hp23), by rw [nm_get]; exact atI_nat eb, h24, ?_, nx (by lia) ⟨⟨_, rfl⟩, fun b o e => ?_, upd_same, by simp [al], fun lane hlane => ?_⟩⟩
    · rw [al]; exact Nat.lt_of_lt_of_le (show j < 1000 by lia) (by decide)
    · rw [upd_ne (ne_of_none e hlq)]; exact s24 b o e
    · by_cases z : lane = j
      · subst z
        exact ⟨b, by rw [List.getElem?_append_right (by lia), al, Nat.sub_self]; rfl, Tups.lst h24 _ _ hb24⟩
      · obtain ⟨c, ec, hc⟩ := ha lane (by lia)
        exact ⟨c, by rw [List.getElem?_append_left (by lia)]; exact ec, Tups.lst h24 _ _ hc⟩
  rintro acc σ H24 ⟨⟨v, rfl⟩, s24, h24, al, ha⟩
  rw [show ((N.lanes : Nat) : Int).toNat = N.lanes from by lia] at al ha
  have sh24 := (sh20.keep u23).keep s24
  refine ⟨_, rfl, p, _, rfl, .inr (SqT.of sh24.1), fun lt hlt => ?_⟩
  have s25 := same_new hlt (.lst ss)
  have sh25 := sh24.keep s25
  refine ⟨2, _, _, by decide, dd_rows (n := N.lanes) (g := fun lane => endsM N (aloneL N.lanes lane (pw d))) (s25 _ _ h24) al fun lane h => ?_, dd_rows (n := N.lanes) (g := fun lane => endsM N (aloneL N.lanes lane (pw d))) upd_same sl sh25.2.2, _, rfl, ?_⟩
  · obtain ⟨b, e, hb⟩ := ha lane h
    exact ⟨b, e, s25 _ _ hb⟩
  have ev : (!PyData.eqv (.list (((List.range N.lanes).map fun lane => endsM N (aloneL N.lanes lane (pw d))).map rowD)) (.list (((List.range N.lanes).map fun lane => endsM N (aloneL N.lanes lane (pw d))).map rowD))) = false := by
    rw [PyData.eqv, eqv_rowsD]; rfl
  rw [if_neg (by decide), ev]
  have u25 := (u23.trans s24).trans s25
  exact iteF ⟨⟨_, _, _, _, _, rfl⟩, S20.keep u25, B20.trans (But.of u25)⟩
end
end K33
end
namespace K33
open PySem L2 Own Bn
structure FnAt (K : PySem.W.Frag) (x : Str) (st : Stmt) (f : Addr) (fd : FuncData) : Prop where
  ns : PySem.W.nsIn K mainGlobals x = some (some (.ref f))
  fn : Fun K x x st f fd
theorem fn_at {K : PySem.W.Frag} {x : Str} {st : Stmt} {f : Addr} {oc : Value} {od an : Option Addr} {osl : Array (Option Value)} {kV doc pm cdv ct : Value} (a : PySem.W.nsIn K mainGlobals x = some (some (.ref f)))
    (l : K.lookup f = some ⟨oc, od, .func (PySem.W.fnOf x x (defArgs st) (defBody st) (defScope st) .none kV doc pm an cdv ct), osl⟩) (c : PySem.W.codeIn K cdv x = true) (k : PySem.W.keepIn K (.ref f) = true) : FnAt K x st f (PySem.W.fnOf x x (defArgs st) (defBody st) (defScope st) .none kV doc pm an cdv ct) := ⟨a, fun_mk l c k⟩
theorem us1 {us : List Value} (h : us.length = 1) : ∃ u0, us = [u0] := by
  match us, h with
  | [u0], _ => exact ⟨u0, rfl⟩
theorem us2 {us : List Value} (h : us.length = 2) : ∃ u0 u1, us = [u0, u1] := by
  match us, h with
  | [u0, u1], _ => exact ⟨u0, u1, rfl⟩
theorem us3 {us : List Value} (h : us.length = 3) : ∃ u0 u1 u2, us = [u0, u1, u2] := by
  match us, h with
  | [u0, u1, u2], _ => exact ⟨u0, u1, u2, rfl⟩
set_option maxHeartbeats 4000001 in
theorem all_mk {l : PySem.W.OpenLaw} {w : World} {K : PySem.W.Frag} {h : Heap} {mg : Str → Option Value} {fa f1 f2 f3 f4 f5 f6 f7 f8 f9 f10 f11 f12 f13 f14 f15 f16 f17 f18 f19 f20 f21 f22 f23 f24 f25 f26 f27 f28 f29 f30 : Addr} {d1 d2 d3 d4 d5 d6 d7 d8 d9 d10 d11 d12 d13 d14 d15 d16 d17 d18 d19 d20 d21 d22 d23 d24 d25 d26 d27 d28 d29 d30 : FuncData} (X : K.In h) (G : h.Ns mainGlobals mg) (hfa : mg "law" = some (.ref fa))
    (A1 : FnAt K "_law_cell_at" sCell f1 d1)
    (A2 : FnAt K "_law_left" sLeft f2 d2)
    (A3 : FnAt K "_law_pick" sPick f3 d3)
    (A4 : FnAt K "_law_net" sNet f4 d4)
    (A5 : FnAt K "_law_even_net" sEven f5 d5)
    (A6 : FnAt K "layers" sLayers f6 d6)
    (A7 : FnAt K "plain" sPlain f7 d7)
    (A8 : FnAt K "depth" sDepth f8 d8)
    (A9 : FnAt K "power_of_two" sPow f9 d9)
    (A10 : FnAt K "row_of" sRowOf f10 d10)
    (A11 : FnAt K "net_of" sMadeNet f11 d11)
    (A12 : FnAt K "block_of" sBlock f12 d12)
    (A13 : FnAt K "rounds" sRounds f13 d13)
    (A14 : FnAt K "by_turns" sBy f14 d14)
    (A15 : FnAt K "tree_of" sTreeOf f15 d15)
    (A16 : FnAt K "tree" sTree f16 d16)
    (A17 : FnAt K "merger_of" sMergeOf f17 d17)
    (A18 : FnAt K "merger" sMerger f18 d18)
    (A19 : FnAt K "stairway_of" sStairOf f19 d19)
    (A20 : FnAt K "stairway" sStairway f20 d20)
    (A21 : FnAt K "flowed" sFlowed f21 d21)
    (A22 : FnAt K "ends_of" sEnds f22 d22)
    (A23 : FnAt K "alone" sAlone f23 d23)
    (A24 : FnAt K "shares" sShares f24 d24)
    (A25 : FnAt K "unlike_pair" sUnlike f25 d25)
    (A26 : FnAt K "uneven" sUneven f26 d26)
    (A27 : FnAt K "is_even" sIsEven f27 d27)
    (A28 : FnAt K "_law_right" sRight f28 d28)
    (A29 : FnAt K "_law_renamed" sRen f29 d29)
    (A30 : FnAt K "law" sLaw f30 d30)
    (z1 : PySem.W.nsIn K mainGlobals "len" = some none)
    (z2 : PySem.W.nsIn K mainGlobals "range" = some none)
    (z3 : PySem.W.nsIn K mainGlobals "tuple" = some none)
    (z4 : PySem.W.nsIn K mainGlobals "enumerate" = some none)
    (z5 : PySem.W.nsIn K mainGlobals "abs" = some none)
    (z6 : PySem.W.nsIn K mainGlobals "zip" = some none)
    (z7 : PySem.W.nsIn K mainGlobals "isinstance" = some none)
    (z8 : PySem.W.nsIn K mainGlobals "all" = some none)
    (z9 : PySem.W.nsIn K mainGlobals "sum" = some none)
    (z10 : PySem.W.nsIn K mainGlobals "bool" = some none)
    (z11 : PySem.W.nsIn K mainGlobals "int" = some none)
    (z12 : PySem.W.nsIn K mainGlobals "str" = some none)
    (z13 : PySem.W.nsIn K mainGlobals "max" = some none)
    (z14 : PySem.W.nsIn K mainGlobals "min" = some none)
    (z15 : PySem.W.nsIn K mainGlobals "sorted" = some none)
    (z16 : PySem.W.nsIn K mainGlobals "list" = some none)
    (zd : PySem.W.nsIn K cStatics "sys.int_max_str_digits" = some none)
    : ∃ fd : FuncData, (∀ (s : Shared) (v : Value), BindsTo s fd ⟨[v], []⟩ [("_law_script", v)]) ∧ ∀ base : Heap, K.In base → base.Ns mainGlobals mg → FnOk l.prog w K mg base CX0 13 fa fd ["_law_script"] (spLaw K) := by
  have e := hfa.symm.trans (PySem.W.mg_of X G A30.ns)
  cases e
  have M : Mgs mg := ⟨PySem.W.mg_none_of X G z1, PySem.W.mg_none_of X G z2, PySem.W.mg_none_of X G z3, PySem.W.mg_none_of X G z4, PySem.W.mg_none_of X G z5, PySem.W.mg_none_of X G z6, PySem.W.mg_none_of X G z7, PySem.W.mg_none_of X G z8, PySem.W.mg_none_of X G z9, PySem.W.mg_none_of X G z10, PySem.W.mg_none_of X G z11, PySem.W.mg_none_of X G z12, PySem.W.mg_none_of X G z13, PySem.W.mg_none_of X G z14, PySem.W.mg_none_of X G z15, PySem.W.mg_none_of X G z16⟩
  have b1 := A1.fn.binds (ps := ["_law_script", "_law_k"]) fun _ _ _ _ _ _ us hl => by obtain ⟨u0, u1, rfl⟩ := us2 hl; rfl
  have m1 := PySem.W.mg_of X G A1.ns
  have b2 := A2.fn.binds (ps := ["_law_script", "_law_k"]) fun _ _ _ _ _ _ us hl => by obtain ⟨u0, u1, rfl⟩ := us2 hl; rfl
  have m2 := PySem.W.mg_of X G A2.ns
  have b3 := A3.fn.binds (ps := ["_law_left_here", "_law_many"]) fun _ _ _ _ _ _ us hl => by obtain ⟨u0, u1, rfl⟩ := us2 hl; rfl
  have m3 := PySem.W.mg_of X G A3.ns
  have b4 := A4.fn.binds (ps := ["_law_left_here", "_law_most"]) fun _ _ _ _ _ _ us hl => by obtain ⟨u0, u1, rfl⟩ := us2 hl; rfl
  have m4 := PySem.W.mg_of X G A4.ns
  have b5 := A5.fn.binds (ps := ["_law_left_here", "_law_most"]) fun _ _ _ _ _ _ us hl => by obtain ⟨u0, u1, rfl⟩ := us2 hl; rfl
  have m5 := PySem.W.mg_of X G A5.ns
  have b6 := A6.fn.binds (ps := ["net"]) fun _ _ _ _ _ _ us hl => by obtain ⟨u0, rfl⟩ := us1 hl; rfl
  have m6 := PySem.W.mg_of X G A6.ns
  have b7 := A7.fn.binds (ps := ["net"]) fun _ _ _ _ _ _ us hl => by obtain ⟨u0, rfl⟩ := us1 hl; rfl
  have m7 := PySem.W.mg_of X G A7.ns
  have b8 := A8.fn.binds (ps := ["net"]) fun _ _ _ _ _ _ us hl => by obtain ⟨u0, rfl⟩ := us1 hl; rfl
  have m8 := PySem.W.mg_of X G A8.ns
  have b9 := A9.fn.binds (ps := ["many"]) fun _ _ _ _ _ _ us hl => by obtain ⟨u0, rfl⟩ := us1 hl; rfl
  have m9 := PySem.W.mg_of X G A9.ns
  have b10 := A10.fn.binds (ps := ["k"]) fun _ _ _ _ _ _ us hl => by obtain ⟨u0, rfl⟩ := us1 hl; rfl
  have m10 := PySem.W.mg_of X G A10.ns
  have b11 := A11.fn.binds (ps := ["row", "made"]) fun _ _ _ _ _ _ us hl => by obtain ⟨u0, u1, rfl⟩ := us2 hl; rfl
  have m11 := PySem.W.mg_of X G A11.ns
  have b12 := A12.fn.binds (ps := ["row"]) fun _ _ _ _ _ _ us hl => by obtain ⟨u0, rfl⟩ := us1 hl; rfl
  have m12 := PySem.W.mg_of X G A12.ns
  have b13 := A13.fn.binds (ps := ["k"]) fun _ _ _ _ _ _ us hl => by obtain ⟨u0, rfl⟩ := us1 hl; rfl
  have m13 := PySem.W.mg_of X G A13.ns
  have b14 := A14.fn.binds (ps := ["one", "other"]) fun _ _ _ _ _ _ us hl => by obtain ⟨u0, u1, rfl⟩ := us2 hl; rfl
  have m14 := PySem.W.mg_of X G A14.ns
  have b15 := A15.fn.binds (ps := ["row"]) fun _ _ _ _ _ _ us hl => by obtain ⟨u0, rfl⟩ := us1 hl; rfl
  have m15 := PySem.W.mg_of X G A15.ns
  have b16 := A16.fn.binds (ps := ["k"]) fun _ _ _ _ _ _ us hl => by obtain ⟨u0, rfl⟩ := us1 hl; rfl
  have m16 := PySem.W.mg_of X G A16.ns
  have b17 := A17.fn.binds (ps := ["one", "other"]) fun _ _ _ _ _ _ us hl => by obtain ⟨u0, u1, rfl⟩ := us2 hl; rfl
  have m17 := PySem.W.mg_of X G A17.ns
  have b18 := A18.fn.binds (ps := ["k"]) fun _ _ _ _ _ _ us hl => by obtain ⟨u0, rfl⟩ := us1 hl; rfl
  have m18 := PySem.W.mg_of X G A18.ns
  have b19 := A19.fn.binds (ps := ["row"]) fun _ _ _ _ _ _ us hl => by obtain ⟨u0, rfl⟩ := us1 hl; rfl
  have m19 := PySem.W.mg_of X G A19.ns
  have b20 := A20.fn.binds (ps := ["k"]) fun _ _ _ _ _ _ us hl => by obtain ⟨u0, rfl⟩ := us1 hl; rfl
  have m20 := PySem.W.mg_of X G A20.ns
  have b21 := A21.fn.binds (ps := ["net", "counts"]) fun _ _ _ _ _ _ us hl => by obtain ⟨u0, u1, rfl⟩ := us2 hl; rfl
  have m21 := PySem.W.mg_of X G A21.ns
  have b22 := A22.fn.binds (ps := ["net", "counts"]) fun _ _ _ _ _ _ us hl => by obtain ⟨u0, u1, rfl⟩ := us2 hl; rfl
  have m22 := PySem.W.mg_of X G A22.ns
  have b23 := A23.fn.binds (ps := ["lanes", "lane", "many"]) fun _ _ _ _ _ _ us hl => by obtain ⟨u0, u1, u2, rfl⟩ := us3 hl; rfl
  have m23 := PySem.W.mg_of X G A23.ns
  have b24 := A24.fn.binds (ps := ["net"]) fun _ _ _ _ _ _ us hl => by obtain ⟨u0, rfl⟩ := us1 hl; rfl
  have m24 := PySem.W.mg_of X G A24.ns
  have b25 := A25.fn.binds (ps := ["share"]) fun _ _ _ _ _ _ us hl => by obtain ⟨u0, rfl⟩ := us1 hl; rfl
  have m25 := PySem.W.mg_of X G A25.ns
  have b26 := A26.fn.binds (ps := ["net", "some"]) fun _ _ _ _ _ _ us hl => by obtain ⟨u0, u1, rfl⟩ := us2 hl; rfl
  have m26 := PySem.W.mg_of X G A26.ns
  have b27 := A27.fn.binds (ps := ["net", "some"]) fun _ _ _ _ _ _ us hl => by obtain ⟨u0, u1, rfl⟩ := us2 hl; rfl
  have m27 := PySem.W.mg_of X G A27.ns
  have b28 := A28.fn.binds (ps := ["_law_net_here", "_law_told"]) fun _ _ _ _ _ _ us hl => by obtain ⟨u0, u1, rfl⟩ := us2 hl; rfl
  have m28 := PySem.W.mg_of X G A28.ns
  have b29 := A29.fn.binds (ps := ["_law_net_here", "_law_names"]) fun _ _ _ _ _ _ us hl => by obtain ⟨u0, u1, rfl⟩ := us2 hl; rfl
  have m29 := PySem.W.mg_of X G A29.ns
  obtain ⟨oc, od, kV, doc, pm, an, cdv, ct, osl, ed, _, _⟩ := id A30.fn.ex
  refine ⟨d30, fun s v => by rw [ed]; exact .of_eq rfl, fun base _ _ => ?_⟩
  have U1 : Use l.prog w K mg base "_law_cell_at" ["_law_script", "_law_k"] 1 (spCell K) f1 d1 := ⟨ok_cell A1.fn M, b1, A1.fn.kp, m1⟩
  have U2 : Use l.prog w K mg base "_law_left" ["_law_script", "_law_k"] 2 (spLeft K) f2 d2 := ⟨ok_left A2.fn M zd U1, b2, A2.fn.kp, m2⟩
  have U3 : Use l.prog w K mg base "_law_pick" ["_law_left_here", "_law_many"] 1 spPick f3 d3 := ⟨ok_pick A3.fn, b3, A3.fn.kp, m3⟩
  have U4 : Use l.prog w K mg base "_law_net" ["_law_left_here", "_law_most"] 2 (spNet 60) f4 d4 := ⟨ok_net 60 (by decide) A4.fn M U3, b4, A4.fn.kp, m4⟩
  have U5 : Use l.prog w K mg base "_law_even_net" ["_law_left_here", "_law_most"] 2 spEven f5 d5 := ⟨ok_even A5.fn M U3, b5, A5.fn.kp, m5⟩
  have U6 : Use l.prog w K mg base "layers" ["net"] 1 spLayers f6 d6 := ⟨ok_layers A6.fn M, b6, A6.fn.kp, m6⟩
  have U7 : Use l.prog w K mg base "plain" ["net"] 2 spPlain f7 d7 := ⟨ok_plain A7.fn M U6, b7, A7.fn.kp, m7⟩
  have U8 : Use l.prog w K mg base "depth" ["net"] 2 spDepth f8 d8 := ⟨ok_depth A8.fn M U6, b8, A8.fn.kp, m8⟩
  have U9 : Use l.prog w K mg base "power_of_two" ["many"] 1 spPow f9 d9 := ⟨ok_pow A9.fn M, b9, A9.fn.kp, m9⟩
  have U10 : Use l.prog w K mg base "row_of" ["k"] 2 spRowOf f10 d10 := ⟨ok_rowof A10.fn M U9, b10, A10.fn.kp, m10⟩
  have U11 : Use l.prog w K mg base "net_of" ["row", "made"] 3 spMadeNet f11 d11 := ⟨ok_madenet A11.fn M U7, b11, A11.fn.kp, m11⟩
  have U12 : Use l.prog w K mg base "block_of" ["row"] 5 (spBlock 4) f12 d12 := ⟨ok_block A12.fn M b12 m12 4, b12, A12.fn.kp, m12⟩
  have U13 : Use l.prog w K mg base "rounds" ["k"] 6 spRounds f13 d13 := ⟨ok_rounds A13.fn U10 U12 U11, b13, A13.fn.kp, m13⟩
  have U14 : Use l.prog w K mg base "by_turns" ["one", "other"] 1 spBy f14 d14 := ⟨ok_by A14.fn M, b14, A14.fn.kp, m14⟩
  have U15 : Use l.prog w K mg base "tree_of" ["row"] 6 spTreeAny f15 d15 := ⟨ok_treeany A15.fn M U14 b15 m15, b15, A15.fn.kp, m15⟩
  have U16 : Use l.prog w K mg base "tree" ["k"] 7 spTree f16 d16 := ⟨ok_tree A16.fn U10 U15 U11, b16, A16.fn.kp, m16⟩
  have U17 : Use l.prog w K mg base "merger_of" ["one", "other"] 6 spMergeAny f17 d17 := ⟨ok_mergeany A17.fn M U14 b17 m17, b17, A17.fn.kp, m17⟩
  have U18 : Use l.prog w K mg base "merger" ["k"] 7 spMerger f18 d18 := ⟨ok_merger A18.fn M U10 U17 U11, b18, A18.fn.kp, m18⟩
  have U19 : Use l.prog w K mg base "stairway_of" ["row"] 11 spStairAny f19 d19 := ⟨ok_stairany A19.fn M U17 b19 m19, b19, A19.fn.kp, m19⟩
  have U20 : Use l.prog w K mg base "stairway" ["k"] 12 spStairway f20 d20 := ⟨ok_stairway A20.fn U10 U19 U11, b20, A20.fn.kp, m20⟩
  have U21 : Use l.prog w K mg base "flowed" ["net", "counts"] 1 spFlowed f21 d21 := ⟨ok_flowed A21.fn M, b21, A21.fn.kp, m21⟩
  have U22 : Use l.prog w K mg base "ends_of" ["net", "counts"] 2 spEnds f22 d22 := ⟨ok_ends A22.fn M U21, b22, A22.fn.kp, m22⟩
  have U9_b : Use l.prog w K mg base "power_of_two" ["many"] 1 spPowB f9 d9 := ⟨ok_powb A9.fn M, b9, A9.fn.kp, m9⟩
  have U23 : Use l.prog w K mg base "alone" ["lanes", "lane", "many"] 1 spAlone f23 d23 := ⟨ok_alone A23.fn M, b23, A23.fn.kp, m23⟩
  have U24 : Use l.prog w K mg base "shares" ["net"] 3 spShares f24 d24 := ⟨ok_shares A24.fn M U8 U9_b U23 U22, b24, A24.fn.kp, m24⟩
  have U25 : Use l.prog w K mg base "unlike_pair" ["share"] 1 spUnlike f25 d25 := ⟨ok_unlike A25.fn M, b25, A25.fn.kp, m25⟩
  have U26 : Use l.prog w K mg base "uneven" ["net", "some"] 4 spUneven f26 d26 := ⟨ok_uneven A26.fn M U24 U25, b26, A26.fn.kp, m26⟩
  have U27 : Use l.prog w K mg base "is_even" ["net", "some"] 5 spIsEven f27 d27 := ⟨ok_iseven A27.fn M U26, b27, A27.fn.kp, m27⟩
  have U28 : Use l.prog w K mg base "_law_right" ["_law_net_here", "_law_told"] 6 spRight f28 d28 := ⟨ok_right A28.fn M U8 U27 U26, b28, A28.fn.kp, m28⟩
  have U29 : Use l.prog w K mg base "_law_renamed" ["_law_net_here", "_law_names"] 1 spRen f29 d29 := ⟨ok_ren A29.fn M, b29, A29.fn.kp, m29⟩
  exact ok_law A30.fn M U2 U3 U20 U13 U16 U18 U27 U4 U5 U24 U29 U28
theorem walk {l : PySem.W.OpenLaw} {q : Program} {loose : List Str} {XP : (Str → Option Value) → Heap → Prop} {YP : World → Heap → Prop} {d : DefRec} {K : Params → PySem.W.Frag} (hn : l.most = some 63) (hdf : d.params.defaults = [])
    (hY : ∀ (w : World) (h : Heap), YP w h → (K w.params).In h)
    (F : ∀ (w : World) (mg : Str → Option Value) (fa : Addr) (h : Heap), (K w.params).In h → h.Ns mainGlobals mg → mg d.name = some (.ref fa) →
      ∃ fd : FuncData, (∀ (s : Shared) (u : Value), BindsTo s fd ⟨[u], []⟩ [("_law_script", u)]) ∧ ∀ base : Heap, (K w.params).In base → base.Ns mainGlobals mg → FnOk l.prog w (K w.params) mg base CX0 13 fa fd ["_law_script"] (spLaw (K w.params))) :
    PySem.W.WalkO q loose XP YP l.row.toRowW d [] (fun f vs => PySem.call f vs) :=
  L2.walk_ofK (n := 63) (k := 13) (x := "_law_script") (CX := CX0) (sp := spLaw) hn (by decide) hdf ⟨rfl, by decide, by decide, rfl⟩ hY F (fun _ _ a ns hl _ hS => ⟨a, ns, rfl, hS, hl, fun _ => rfl⟩) fun _ _ _ _ z => z
end K33
open PySem PySem.W PyProof.Rows
set_option maxRecDepth 100000 in
set_option maxHeartbeats 0 in
theorem PySem.Challenge.cw_stairlanes_k33_whole_shares_come_to_all_holds : PySem.Challenge.rw_stairlanes_k33_whole_shares_come_to_all.Holds := by
  w_on; o_law; k_head; (case hw => w_witness2)
  k_fill
  refine K33.walk (l := PySem.Challenge.rw_stairlanes_k33_whole_shares_come_to_all) rfl rfl (fun w h Y => PySem.W.kIn_of Y) ?F
  case F =>
    intro w mg fa h KX G hmg
    refine' K33.all_mk KX G hmg (K33.fn_at ?a1 ?l1 ?c1 ?k1) (K33.fn_at ?a2 ?l2 ?c2 ?k2) (K33.fn_at ?a3 ?l3 ?c3 ?k3) (K33.fn_at ?a4 ?l4 ?c4 ?k4) (K33.fn_at ?a5 ?l5 ?c5 ?k5) (K33.fn_at ?a6 ?l6 ?c6 ?k6) (K33.fn_at ?a7 ?l7 ?c7 ?k7) (K33.fn_at ?a8 ?l8 ?c8 ?k8) (K33.fn_at ?a9 ?l9 ?c9 ?k9) (K33.fn_at ?a10 ?l10 ?c10 ?k10) (K33.fn_at ?a11 ?l11 ?c11 ?k11) (K33.fn_at ?a12 ?l12 ?c12 ?k12) (K33.fn_at ?a13 ?l13 ?c13 ?k13) (K33.fn_at ?a14 ?l14 ?c14 ?k14) (K33.fn_at ?a15 ?l15 ?c15 ?k15) (K33.fn_at ?a16 ?l16 ?c16 ?k16) (K33.fn_at ?a17 ?l17 ?c17 ?k17) (K33.fn_at ?a18 ?l18 ?c18 ?k18) (K33.fn_at ?a19 ?l19 ?c19 ?k19) (K33.fn_at ?a20 ?l20 ?c20 ?k20) (K33.fn_at ?a21 ?l21 ?c21 ?k21) (K33.fn_at ?a22 ?l22 ?c22 ?k22) (K33.fn_at ?a23 ?l23 ?c23 ?k23) (K33.fn_at ?a24 ?l24 ?c24 ?k24) (K33.fn_at ?a25 ?l25 ?c25 ?k25) (K33.fn_at ?a26 ?l26 ?c26 ?k26) (K33.fn_at ?a27 ?l27 ?c27 ?k27) (K33.fn_at ?a28 ?l28 ?c28 ?k28) (K33.fn_at ?a29 ?l29 ?c29 ?k29) (K33.fn_at ?a30 ?l30 ?c30 ?k30) ?z1 ?z2 ?z3 ?z4 ?z5 ?z6 ?z7 ?z8 ?z9 ?z10 ?z11 ?z12 ?z13 ?z14 ?z15 ?z16 ?zd
    (case a1 => k_is); (case l1 => k_is); (case c1 => k_is); (case k1 => k_is)
    (case a2 => k_is); (case l2 => k_is); (case c2 => k_is); (case k2 => k_is)
    (case a3 => k_is); (case l3 => k_is); (case c3 => k_is); (case k3 => k_is)
    (case a4 => k_is); (case l4 => k_is); (case c4 => k_is); (case k4 => k_is)
    (case a5 => k_is); (case l5 => k_is); (case c5 => k_is); (case k5 => k_is)
    (case a6 => k_is); (case l6 => k_is); (case c6 => k_is); (case k6 => k_is)
    (case a7 => k_is); (case l7 => k_is); (case c7 => k_is); (case k7 => k_is)
    (case a8 => k_is); (case l8 => k_is); (case c8 => k_is); (case k8 => k_is)
    (case a9 => k_is); (case l9 => k_is); (case c9 => k_is); (case k9 => k_is)
    (case a10 => k_is); (case l10 => k_is); (case c10 => k_is); (case k10 => k_is)
    (case a11 => k_is); (case l11 => k_is); (case c11 => k_is); (case k11 => k_is)
    (case a12 => k_is); (case l12 => k_is); (case c12 => k_is); (case k12 => k_is)
    (case a13 => k_is); (case l13 => k_is); (case c13 => k_is); (case k13 => k_is)
    (case a14 => k_is); (case l14 => k_is); (case c14 => k_is); (case k14 => k_is)
    (case a15 => k_is); (case l15 => k_is); (case c15 => k_is); (case k15 => k_is)
    (case a16 => k_is); (case l16 => k_is); (case c16 => k_is); (case k16 => k_is)
    (case a17 => k_is); (case l17 => k_is); (case c17 => k_is); (case k17 => k_is)
    (case a18 => k_is); (case l18 => k_is); (case c18 => k_is); (case k18 => k_is)
    (case a19 => k_is); (case l19 => k_is); (case c19 => k_is); (case k19 => k_is)
    (case a20 => k_is); (case l20 => k_is); (case c20 => k_is); (case k20 => k_is)
    (case a21 => k_is); (case l21 => k_is); (case c21 => k_is); (case k21 => k_is)
    (case a22 => k_is); (case l22 => k_is); (case c22 => k_is); (case k22 => k_is)
    (case a23 => k_is); (case l23 => k_is); (case c23 => k_is); (case k23 => k_is)
    (case a24 => k_is); (case l24 => k_is); (case c24 => k_is); (case k24 => k_is)
    (case a25 => k_is); (case l25 => k_is); (case c25 => k_is); (case k25 => k_is)
    (case a26 => k_is); (case l26 => k_is); (case c26 => k_is); (case k26 => k_is)
    (case a27 => k_is); (case l27 => k_is); (case c27 => k_is); (case k27 => k_is)
    (case a28 => k_is); (case l28 => k_is); (case c28 => k_is); (case k28 => k_is)
    (case a29 => k_is); (case l29 => k_is); (case c29 => k_is); (case k29 => k_is)
    (case a30 => k_is); (case l30 => k_is); (case c30 => k_is); (case k30 => k_is)
    (case z1 => k_is)
    (case z2 => k_is)
    (case z3 => k_is)
    (case z4 => k_is)
    (case z5 => k_is)
    (case z6 => k_is)
    (case z7 => k_is)
    (case z8 => k_is)
    (case z9 => k_is)
    (case z10 => k_is)
    (case z11 => k_is)
    (case z12 => k_is)
    (case z13 => k_is)
    (case z14 => k_is)
    (case z15 => k_is)
    (case z16 => k_is)
    (case zd => k_is)
