import PyProof.Rows.All
import Wide.All
import OpenK.AllK
import Wide.FinOn
import Lean
import PyProof.EqAt
import PyProof.EqKinds
import PyProof.TupleCall
import PyProof.NeKinds
import KE.KIntText
import PyProof.TupleOfStr
import PyProof.ReprRoads
import PyProof.StrBlockL
import PyProof.StrLawsTight
import PyProof.StrWalks
import PyProof.SliceStr2
import PyProof.StrLawsIdx
import PyProof.Rows.ReprOcc
import PyProof.Rows.StrBin
import KE.KSortTup
import KE.KItemsList
import PyProof.CollectIter
import PyProof.Rows.FStr
import KE.KTryMore
import PySem.Challenge.RW_stairlanes_k76_texts_of_no_counts
set_option Elab.async false
set_option linter.all false
set_option maxRecDepth 100000
namespace L2
open PySem PySem.Spec PyProof.Rows
abbrev Key := Sum Int Str
def keyIs : Key → Value → Bool
  | .inl k, v => Value.isInt k v
  | .inr x, v => Value.isStrOf x v
def keyH (w : World) : Key → Int
  | .inl k => hashInt k
  | .inr x => hashStr w x
theorem keyIs_shape : ∀ {k : Key} {v : Value}, keyIs k v = true → (∃ i t, k = Sum.inl i ∧ v = Value.int i t) ∨ (∃ x t, k = Sum.inr x ∧ v = Value.str x t)
  | .inl i, v, h => by
    obtain ⟨t, e⟩ := Value.isInt_shape (k := i) (v := v) h
    exact .inl ⟨i, t, rfl, e⟩
  | .inr x, v, h => by
    obtain ⟨t, e⟩ := Value.isStrOf_shape (x := x) (v := v) h
    exact .inr ⟨x, t, rfl, e⟩
theorem key_ll (a b : Int) : decide ((Sum.inl a : Key) = Sum.inl b) = (a == b) := by
  by_cases e : a = b
  · subst e; simp
  · have h : ¬ (Sum.inl a : Key) = Sum.inl b := fun q => e (Sum.inl.inj q)
    rw [decide_eq_false h]
    exact (beq_eq_false_iff_ne.mpr e).symm
theorem key_rr (a b : Str) : decide ((Sum.inr a : Key) = Sum.inr b) = decide (a = b) := by
  by_cases e : a = b
  · subst e; simp
  · have h : ¬ (Sum.inr a : Key) = Sum.inr b := fun q => e (Sum.inr.inj q)
    rw [decide_eq_false h, decide_eq_false e]
theorem key_lr (a : Int) (b : Str) : decide ((Sum.inl a : Key) = Sum.inr b) = false := decide_eq_false (fun q => nomatch q)
theorem key_rl (a : Str) (b : Int) : decide ((Sum.inr a : Key) = Sum.inl b) = false := decide_eq_false (fun q => nomatch q)

def mixKind (prog : Program) (w : World) : PySem.KeyKind prog w Key where
  is := keyIs
  hash := keyH w
  inj := fun v a b ha hb => by
    rcases keyIs_shape ha with ⟨i, t, rfl, rfl⟩ | ⟨x, t, rfl, rfl⟩
    · rcases keyIs_shape hb with ⟨j, u, rfl, e⟩ | ⟨y, u, rfl, e⟩
      · injection e with e1 _; rw [e1]
      · exact nomatch e
    · rcases keyIs_shape hb with ⟨j, u, rfl, e⟩ | ⟨y, u, rfl, e⟩
      · exact nomatch e
      · injection e with e1 _; rw [e1]
  byValue := fun k v h => by
    rcases keyIs_shape h with ⟨i, t, rfl, rfl⟩ | ⟨x, t, rfl, rfl⟩ <;> rfl
  pyHash := fun hv h => by
    rcases keyIs_shape hv with ⟨i, t, rfl, rfl⟩ | ⟨x, t, rfl, rfl⟩
    · exact wpAny_pyHash_int h
    · exact wpAny_pyHash_str h
  eqBool := fun hu hv h => by
    rcases keyIs_shape hu with ⟨i, t, rfl, rfl⟩ | ⟨x, t, rfl, rfl⟩
    · rcases keyIs_shape hv with ⟨j, u, rfl, rfl⟩ | ⟨y, u, rfl, rfl⟩
      · rw [key_ll] at h; exact wpAny_eqBool_int h
      · rw [key_lr] at h; exact SeqAt.EqAt.int_str i t y u _ _ _ _ h
    · rcases keyIs_shape hv with ⟨j, u, rfl, rfl⟩ | ⟨y, u, rfl, rfl⟩
      · rw [key_rl] at h; exact SeqAt.EqAt.str_int x t j u _ _ _ _ h
      · rw [key_rr] at h; exact wpAny_eqBool_str h
  «strs» := fun k x t v h => by
    rcases keyIs_shape h with ⟨i, u, rfl, e⟩ | ⟨y, u, rfl, e⟩
    · exact nomatch e
    · injection e with e1 _
      subst e1
      cases v <;> rfl

end L2

namespace L2
open PySem PySem.Spec PyProof.Rows
inductive V where
  | non | bl (b : Bool) | int (i : Int) | str (x : Str) | byt (b : Array UInt8) | flt (b : UInt64) | ref (a : Addr) | ty (n : String)
  deriving DecidableEq

def RelV : V → Value → Prop
  | .non, u => u = Value.none
  | .bl b, u => u = Value.bool b
  | .int i, u => ∃ t, u = Value.int i t
  | .str x, u => ∃ t, u = Value.str x t
  | .byt b, u => ∃ t, u = Value.bytes b t
  | .flt b, u => ∃ t, u = Value.float b t
  | .ref a, u => u = Value.ref a
  | .ty n, u => u = Value.type n

abbrev Vals : List V → List Value → Prop := Paired RelV
theorem Vals.length {xs : List V} {us : List Value} (r : Vals xs us) : xs.length = us.length := Paired.length r
theorem Vals.get : ∀ {xs : List V} {us : List Value} {i : Nat} {x : V}, Vals xs us → xs[i]? = some x → ∃ u, us[i]? = some u ∧ RelV x u
  | _, _, _, _, .nil, e => by simp at e
  | _, _, 0, _, .cons r _, e => by simp at e; subst e; exact ⟨_, rfl, r⟩
  | _, _, i + 1, x, .cons _ t, e => by
    obtain ⟨u, h1, h2⟩ := Vals.get (i := i) (x := x) t (by simpa using e)
    exact ⟨u, by simpa using h1, h2⟩
theorem Vals.set {x : V} {u : Value} (r : RelV x u) : ∀ {xs : List V} {us : List Value} (i : Nat), Vals xs us → Vals (xs.set i x) (us.set i u)
  | _, _, _, .nil => .nil
  | _, _, 0, .cons _ t => .cons r t
  | _, _, i + 1, .cons q t => .cons q (Vals.set r i t)
theorem Vals.append : ∀ {xs ys : List V} {us ws : List Value}, Vals xs us → Vals ys ws → Vals (xs ++ ys) (us ++ ws)
  | _, _, _, _, .nil, s => s
  | _, _, _, _, .cons r t, s => .cons r (Vals.append t s)
theorem Vals.take : ∀ {xs : List V} {us : List Value} (n : Nat), Vals xs us → Vals (xs.take n) (us.take n)
  | _, _, 0, _ => .nil
  | _, _, _ + 1, .nil => .nil
  | _, _, n + 1, .cons r t => .cons r (Vals.take n t)
theorem Vals.drop : ∀ {xs : List V} {us : List Value} (n : Nat), Vals xs us → Vals (xs.drop n) (us.drop n)
  | _, _, 0, r => r
  | _, _, _ + 1, .nil => .nil
  | _, _, n + 1, .cons _ t => Vals.drop n t
def RelO : Option V → Option Value → Prop
  | some v, some u => RelV v u
  | none, none => True
  | _, _ => False
def KV {κ : Type} : List (κ × V) → List (κ × Value) → Prop := Paired fun (p : κ × V) (q : κ × Value) => p.1 = q.1 ∧ RelV p.2 q.2
def kV : Key → V
  | .inl i => .int i
  | .inr x => .str x
inductive HO where
  | lst (xs : List V)
  | tup (xs : List V)
  | dK (kvs : List (Key × V)) | dT (kvs : List (List Key × V))
  | set (S : Int → Bool) (n : Nat)
  | ins (C dx : Addr) (fs : List (Str × V))
  | own (x : Addr)
  | xd (fs : List (Str × V))
  | met (f x : Addr)
  | rng (lo hi : Int)
  | frz (o : Obj) (u : HO)
  | tbl (ps : Array Value)
  | ext (φ : Heap → Prop)

abbrev Hp := Addr → Option HO
def upd (H : Hp) (a : Addr) (o : HO) : Hp := fun b => if b = a then some o else H b
theorem upd_same {H : Hp} {a : Addr} {o : HO} : upd H a o a = some o := by unfold upd; rw [if_pos rfl]
theorem upd_ne {H : Hp} {a b : Addr} {o : HO} (h : b ≠ a) : upd H a o b = H b := by unfold upd; rw [if_neg h]
theorem ne_of_none {H : Hp} {a b : Addr} {o : HO} (h : H a = some o) (h' : H b = none) : a ≠ b := by
  intro e; subst e; rw [h] at h'; cases h'
def TupX (h : Heap) (a : Addr) (items : Array Value) : Prop := ∃ o, h.get? a = some o ∧ o.cls = .type "tuple" ∧ ∃ n, o.data = .seq items n ∧ o.dict = none
theorem TupX.tup {h : Heap} {a : Addr} {items : Array Value} (x : TupX h a items) : IsTup h a items := let ⟨o, e, c, n, d, _⟩ := x; ⟨o, e, c, n, d⟩
theorem TupX.new (h : Heap) (items : Array Value) : TupX (h.push { cls := .type "tuple", data := .seq items }) h.objs.size items := ⟨_, Heap.get?_push_size _ rfl, rfl, 0, rfl, rfl⟩
section
variable (P : Program) (w : World)
def ObjOk (H : Hp) (h : Heap) (a : Addr) : HO → Prop
  | .lst xs => xs.length ≤ sizeLine ∧ ∃ (its : List Value) (n : Nat), Vals xs its ∧ h.get? a = some { cls := .type "list", data := .seq its.toArray n }
  | .tup xs => xs.length ≤ sizeLine ∧ ∃ its : List Value, Vals xs its ∧ TupX h a its.toArray
  | .dK kvs => kvs.length ≤ sizeLine ∧ (a == sysModules) = false ∧ ∃ vs, KV kvs vs ∧ h.DictOf (mixKind P w) a vs
  | .dT kvs => kvs.length ≤ sizeLine ∧ (a == sysModules) = false ∧ ∃ xs : List (List Key × Addr × Value),
      Paired (fun (p : List Key × V) (q : List Key × Addr × Value) => p.1 = q.1 ∧ H q.2.1 = some (.tup (p.1.map kV)) ∧ RelV p.2 q.2.2) kvs xs ∧
      ∃ o es ep, h.get? a = some o ∧ o.ExactDict ∧ o.data = .dict es ep ∧ es.toList = xs.map (entryOfKey (tupleKind (mixKind P w))) ∧ (xs.map (·.1)).Nodup
  | .set S n => h.SetOf (intKind P w) a S n
  | .ins C dx fs => H dx = some (.own a) ∧ fs.length ≤ 1000 ∧ dx ≠ a ∧ h.get? a = some (PySem.W.instObj C dx) ∧
      ∃ mA, h.Ns1 dx mA ∧ (∀ f, RelO (fs.lookup f) (mA f)) ∧ PySem.Within mA (fs.map (·.1))
  | .own _ => ∃ o, h.get? a = some o
  | .xd fs => ∃ mA, h.Ns1 a mA ∧ ∀ f, RelO (fs.lookup f) (mA f)
  | .rng lo hi => ∃ t u v, h.get? a = some { cls := .type "range", data := .fields #[.int lo t, .int hi u, .int 1 v] }
  | .frz o u => h.get? a = some o ∧ ObjOk H h a u
  | .tbl ps => h.get? a = some { cls := .none, data := .fields ps }
  | .met f x => h.get? a = some (PySem.W.methodObj (.ref f) (.ref x))
  | .ext φ => φ h ∧ (∃ o, h.get? a = some o) ∧ ∀ h1 h2 : Heap, φ h1 → (∀ o, h1.get? a = some o → h2.get? a = some o) → φ h2
def HOk (H : Hp) (h : Heap) : Prop := ∀ a o, H a = some o → ObjOk P w H h a o
end

section
variable {P : Program} {w : World} {H H' : Hp} {h h' : Heap} {a : Addr} {o : HO}
theorem ObjOk.lt (x : ObjOk P w H h a o) : a < h.objs.size := by
  cases o with
  | lst xs => obtain ⟨_, _, _, _, e⟩ := x; exact Heap.lt_size e
  | tup xs => obtain ⟨_, _, _, p⟩ := x; exact p.tup.lt
  | dK kvs => obtain ⟨_, _, _, _, o, _, _, e, _⟩ := x; exact Heap.lt_size e
  | dT kvs => obtain ⟨_, _, _, _, o, _, _, e, _⟩ := x; exact Heap.lt_size e
  | set S n => obtain ⟨o, _, _, _, e, _⟩ := x; exact Heap.lt_size e
  | ins C dx fs => obtain ⟨_, _, _, e, _⟩ := x; exact Heap.lt_size e
  | own y => obtain ⟨_, e⟩ := x; exact Heap.lt_size e
  | xd fs => obtain ⟨_, ⟨_, _, _, e, _⟩, _⟩ := x; exact Heap.lt_size e
  | rng lo hi => obtain ⟨_, _, _, e⟩ := x; exact Heap.lt_size e
  | frz ob u => obtain ⟨e, _⟩ := x; exact Heap.lt_size e
  | tbl ps => exact Heap.lt_size (show h.get? a = some _ from x)
  | met f y => exact Heap.lt_size (show h.get? a = some _ from x)
  | ext φ => obtain ⟨_, ⟨_, e⟩, _⟩ := x; exact Heap.lt_size e
theorem Paired.mapP {α β : Type} {F G : α → β → Prop} : ∀ {l₁ : List α} {l₂ : List β}, Paired F l₁ l₂ → (∀ a b, F a b → G a b) → Paired G l₁ l₂
  | _, _, .nil, _ => .nil
  | _, _, .cons r t, f => .cons (f _ _ r) (Paired.mapP t f)
theorem ObjOk.stay (x : ObjOk P w H h a o) (k : ∀ b u, (b = a ∨ H b = some (.own a)) → h.get? b = some u → h'.get? b = some u)
    (ho : ∀ b, H b = some (.own a) → H' b = some (.own a)) (ht : ∀ b xs, H b = some (.tup xs) → H' b = some (.tup xs)) : ObjOk P w H' h' a o := by
  induction o with
  | lst xs => obtain ⟨z, its, n, r, e⟩ := x; exact ⟨z, its, n, r, k _ _ (.inl rfl) e⟩
  | tup xs => obtain ⟨z, its, r, ob, e, c⟩ := x; exact ⟨z, its, r, ob, k _ _ (.inl rfl) e, c⟩
  | dK kvs => obtain ⟨z, y, vs, r, ob, es, ep, e, c⟩ := x; exact ⟨z, y, vs, r, ob, es, ep, k _ _ (.inl rfl) e, c⟩
  | dT kvs =>
    obtain ⟨z, y, xs, r, ob, es, ep, e, c⟩ := x
    exact ⟨z, y, xs, Paired.mapP r fun p q z => ⟨z.1, ht _ _ z.2.1, z.2.2⟩, ob, es, ep, k _ _ (.inl rfl) e, c⟩
  | set S n => obtain ⟨ob, es, ep, t, e, c⟩ := x; exact ⟨ob, es, ep, t, k _ _ (.inl rfl) e, c⟩
  | ins C dx fs =>
    obtain ⟨d, z, ne, e, mA, ⟨od, es, ep, e2, c⟩, r⟩ := x
    exact ⟨ho _ d, z, ne, k _ _ (.inl rfl) e, mA, ⟨od, es, ep, k _ _ (.inr d) e2, c⟩, r⟩
  | own y => obtain ⟨ob, e⟩ := x; exact ⟨ob, k _ _ (.inl rfl) e⟩
  | xd fs => obtain ⟨mA, ⟨od, es, ep, e, c⟩, r⟩ := x; exact ⟨mA, ⟨od, es, ep, k _ _ (.inl rfl) e, c⟩, r⟩
  | rng lo hi => obtain ⟨t, u, v, e⟩ := x; exact ⟨t, u, v, k _ _ (.inl rfl) e⟩
  | frz ob u ih => obtain ⟨e, q⟩ := x; exact ⟨k _ _ (.inl rfl) e, ih q⟩
  | tbl ps =>
    have e : h.get? a = some { cls := .none, data := .fields ps } := x
    show h'.get? a = some { cls := .none, data := .fields ps }
    exact k a _ (.inl rfl) e
  | met f y =>
    have e : h.get? a = some (PySem.W.methodObj (.ref f) (.ref y)) := x
    show h'.get? a = some (PySem.W.methodObj (.ref f) (.ref y))
    exact k a _ (.inl rfl) e
  | ext φ => obtain ⟨p, ⟨o, e⟩, st⟩ := x; exact ⟨st _ _ p fun o q => k _ _ (.inl rfl) q, ⟨o, k _ _ (.inl rfl) e⟩, st⟩
theorem HOk.lt (x : HOk P w H h) (e : H a = some o) : a < h.objs.size := (x a o e).lt
theorem HOk.fresh (x : HOk P w H h) (e : h.objs.size ≤ a) : H a = none := by
  cases q : H a with
  | none => rfl
  | some u => exact absurd (Nat.lt_of_lt_of_le (x.lt q) e) (Nat.lt_irrefl _)
theorem HOk.kept (x : HOk P w H h) (k : ∀ b u, h.get? b = some u → h'.get? b = some u) : HOk P w H h' := fun a o e =>
  (x a o e).stay (fun b u _ q => k b u q) (fun _ q => q) fun _ _ q => q
theorem HOk.laid (x : HOk P w H h) (k : ∀ b u, h.get? b = some u → h'.get? b = some u) (hp : h.objs.size ≤ a) (new : ObjOk P w (upd H a o) h' a o) : HOk P w (upd H a o) h' := fun b u e => by
  have hn := x.fresh hp
  by_cases hb : b = a
  · subst hb; rw [upd_same] at e; cases e; exact new
  · rw [upd_ne hb] at e
    exact (x b u e).stay (fun c v _ q => k c v q) (fun c q => by rw [upd_ne (ne_of_none q hn)]; exact q) fun c xs q => by rw [upd_ne (ne_of_none q hn)]; exact q
end
def Rd (H : Hp) (a : Addr) (u : HO) : Prop := H a = some u ∨ ∃ o, H a = some (.frz o u)
theorem Rd.ok {P : Program} {w : World} {H : Hp} {h : Heap} {a : Addr} {u : HO} (r : Rd H a u) (x : HOk P w H h) : ObjOk P w H h a u := by
  rcases r with r | ⟨o, r⟩
  · exact x a u r
  · obtain ⟨_, q⟩ := x a _ r
    exact q
def Mut : Option HO → Prop
  | some (.lst _) => True
  | some (.dK _) => True
  | some (.dT _) => True
  | some (.set _ _) => True
  | some (.ins _ _ _) => True
  | some (.ext _) => True
  | _ => False
section
variable {P : Program} {w : World} {H : Hp} {h h' : Heap} {x e : Addr} {o' : HO}
theorem HOk.write (ok : HOk P w H h) (mu : Mut (H x)) (he : e = x ∨ H e = some (.own x)) (k : ∀ b u, b ≠ e → h.get? b = some u → h'.get? b = some u) (heo : ∃ u, h'.get? e = some u)
    (new : ObjOk P w (upd H x o') h' x o') : HOk P w (upd H x o') h' := fun b u q => by
  have nown : ∀ c y, H c = some (.own y) → c ≠ x := fun c y r z => by subst z; rw [r] at mu; exact mu
  have ntup : ∀ c xs, H c = some (.tup xs) → c ≠ x := fun c xs r z => by subst z; rw [r] at mu; exact mu
  by_cases hb : b = x
  · subst hb; rw [upd_same] at q; cases q; exact new
  · rw [upd_ne hb] at q
    by_cases hbe : b = e
    · have q' : H b = some (.own x) := by
        rcases he with z | z
        · exact absurd (hbe.trans z) hb
        · rw [hbe]; exact z
      rw [q] at q'; cases q'
      obtain ⟨v, hv⟩ := heo
      exact ⟨v, by rw [hbe]; exact hv⟩
    · refine (ok b u q).stay (fun c v hc r => k c v ?_ r) (fun c r => by rw [upd_ne (nown c b r)]; exact r) fun c xs r => by rw [upd_ne (ntup c xs r)]; exact r
      rcases hc with rfl | hc
      · exact hbe
      · rintro rfl
        rcases he with z | z
        · exact nown c b hc z
        · rw [hc] at z; cases z; exact hb rfl
end
structure Un (fs ex : List Addr) (H H' : Hp) (h h' : Heap) : Prop where
  keep : ∀ b o, h.get? b = some o → H b = none → b ∉ fs → b ∉ ex → h'.get? b = some o
  slot : ∀ b o, h.get? b = some o → H b = none → b ∈ fs → b ∉ ex → ∃ sl, h'.get? b = some { o with slots := sl }
  free : ∀ b o, h.get? b = some o → H b = none → b ∉ ex → H' b = none
  there : ∀ b o, h.get? b = some o → b ∉ ex → ∃ o', h'.get? b = some o'
  tups : ∀ b xs, H b = some (.tup xs) → H' b = some (.tup xs)
  frzs : ∀ b o u, H b = some (.frz o u) → H' b = some (.frz o u)
  tbls : ∀ b ps, H b = some (.tbl ps) → ∃ more, H' b = some (.tbl (ps ++ more))
section
variable {fs fs' ex ex' : List Addr} {H H1 H2 : Hp} {h h1 h2 h' : Heap} {a x e : Addr} {o : HO}
theorem Un.any (u : Un fs ex H H1 h h1) {b : Addr} {ob : Obj} (q : h.get? b = some ob) (n : H b = none) (hx : b ∉ ex) : ∃ sl, h1.get? b = some { ob with slots := sl } := by
  by_cases hb : b ∈ fs
  · exact u.slot b ob q n hb hx
  · exact ⟨ob.slots, u.keep b ob q n hb hx⟩
theorem Un.kept (k : ∀ b u, h.get? b = some u → h'.get? b = some u) : Un fs ex H H h h' :=
  ⟨fun b ob q _ _ _ => k b ob q, fun b ob q _ _ _ => ⟨ob.slots, k b ob q⟩, fun _ _ _ n _ => n, fun b ob q _ => ⟨ob, k b ob q⟩, fun _ _ q => q, fun _ _ _ q => q, fun _ ps q => ⟨#[], by rw [q]; simp⟩⟩
theorem Un.refl : Un fs ex H H h h := Un.kept fun _ _ q => q
theorem Un.laid (k : ∀ b u, h.get? b = some u → h'.get? b = some u) (hp : h.objs.size ≤ a) (hn : H a = none) : Un fs ex H (upd H a o) h h' where
  keep := fun b u q _ _ _ => k b u q
  slot := fun b u q _ _ _ => ⟨u.slots, k b u q⟩
  free := fun b u q n _ => by rw [upd_ne (Nat.ne_of_lt (Nat.lt_of_lt_of_le (Heap.lt_size q) hp))]; exact n
  there := fun b u q _ => ⟨u, k b u q⟩
  tups := fun b xs q => by rw [upd_ne (ne_of_none q hn)]; exact q
  frzs := fun b u xs q => by rw [upd_ne (ne_of_none q hn)]; exact q
  tbls := fun b ps q => ⟨#[], by rw [upd_ne (ne_of_none q hn), q]; simp⟩
theorem Un.write (mu : Mut (H x)) (he : e = x ∨ H e = some (.own x)) (k : ∀ b u, b ≠ e → h.get? b = some u → h'.get? b = some u) (heo : ∃ u, h'.get? e = some u) : Un fs ex H (upd H x o) h h' := by
  have hx : ∀ b, H b = none → b ≠ x := fun b n z => by subst z; rw [n] at mu; exact mu
  have hb : ∀ b, H b = none → b ≠ e := fun b n z => by
    subst z
    rcases he with r | r
    · exact hx b n r
    · rw [n] at r; cases r
  have hm : ∀ b u, H b = some u → ¬ Mut (some u) → b ≠ x := fun b u q nm z => by subst z; rw [q] at mu; exact nm mu
  refine ⟨fun b u q n _ _ => k b u (hb b n) q, fun b u q n _ _ => ⟨u.slots, k b u (hb b n) q⟩, fun b u q n _ => by rw [upd_ne (hx b n)]; exact n, fun b u q _ => ?_,
    fun b xs q => by rw [upd_ne (hm b _ q fun z => z)]; exact q, fun b u xs q => by rw [upd_ne (hm b _ q fun z => z)]; exact q, fun b ps q => ⟨#[], by rw [upd_ne (hm b _ q fun z => z), q]; simp⟩⟩
  by_cases hbe : b = e
  · subst hbe; exact heo
  · exact ⟨u, k b u hbe q⟩
end
def trk (h : Heap) (H : Hp) : List Addr := (List.range h.objs.size).filter fun a => (H a).isSome
def hidT (h : Heap) (H : Hp) : Heap := PySem.W.hideAll h (trk h H)
theorem hidT_size (h : Heap) (H : Hp) : (hidT h H).objs.size = h.objs.size := PySem.W.hideAll_size _ _
theorem hidT_get {h : Heap} {H : Hp} {b : Addr} {o : Obj} (e : h.get? b = some o) (n : H b = none) : (hidT h H).get? b = some o :=
  PySem.W.hideAll_get _ e fun hm => by
    have q : (H b).isSome = true := (List.mem_filter.mp hm).2
    rw [n] at q; simp at q
theorem of_hidT {h : Heap} {H : Hp} {b : Addr} {o : Obj} (e : (hidT h H).get? b = some o) : h.get? b = some o ∧ H b = none := by
  have e' : h.get? b = some o := PySem.W.of_hideAll (trk h H) e
  refine ⟨e', ?_⟩
  cases q : H b with
  | none => rfl
  | some x =>
    have hm : b ∈ trk h H := List.mem_filter.mpr ⟨List.mem_range.mpr (Heap.lt_size e'), by simp [q]⟩
    have z : (hidT h H).get? b = none := PySem.W.hideAll_none (trk h H) hm
    rw [z] at e; cases e
def allNews (g h : Heap) (L : Addr) : List (Addr × Obj) := (List.range h.objs.size).filterMap fun a => if a = L ∨ (g.get? a).isSome = true then none else (h.get? a).map fun o => (a, o)
def rest (g h : Heap) (L d : Addr) : List (Addr × Obj) := (allNews g h L).filter fun p => decide (p.1 ≠ d)
end L2

namespace L2
open PySem PySem.Spec PyProof.Rows
structure Mod (K : PySem.W.Frag) (mg : Str → Option Value) (base : Heap) : Prop where
  kin : K.In base
  glob : base.Ns mainGlobals mg
  blt : ∃ mb, base.Ns builtinsNs mb ∧ ∀ x : Str, x ≠ "__name__" → mb x = bootBuiltins x
  nolimit : base.NoLimit

/-- the context: a def's body (or a comprehension's block) running. base: fixed through the whole law; s₀, H₀: the entry; outer: the frames whose slots others may change (a def's callers); stack: all frames that run;
   ex: iterators that were made ahead of the entry and are walked here (a comprehension's); fn: the names whose cells were made at the entry (a def: all; a comprehension's block: its own); calm: not within an except suite; pn: pins that every state bears; xe: what is wanted of an exception that leaves the code -/
structure Cx where
  prog : Program
  w : World
  K : PySem.W.Frag
  mg : Str → Option Value
  base : Heap
  A : Around
  N : List Str
  s₀ : Shared
  H₀ : Hp
  env : Env
  outer : List Env
  stack : List Env
  ex : List Addr
  fn : Str → Bool
  calm : Bool
  pn : List (Addr × Obj)
  xe : Value → Shared → Prop
def frs (l : List Env) : List Addr := l.filterMap (·.frame)
abbrev Cx.fs (X : Cx) : List Addr := frs X.outer

def Vis (sc : Scope) (x : Str) : Prop := sc.names.lookup x = some .local ∨ sc.names.lookup x = some .cell ∨ sc.names.lookup x = some .free
def Loc (sc : Scope) (x : Str) : Prop := sc.names.lookup x = some .local ∨ sc.names.lookup x = some .cell
def Look (env : Env) (h : Heap) (m : Str → Option Value) (x : Str) (u : Value) : Prop :=
  (env.kindOf x = some .local ∧ m x = some u) ∨ ((env.kindOf x = some .cell ∨ env.kindOf x = some .free) ∧ ∃ c, env.cells.lookup x = some c ∧ h.IsCell c (some u))

structure Cx.Ok (X : Cx) : Prop where
  mod : Mod X.K X.mg X.base
  kind : X.env.scope.kind = .function
  glob : X.env.globals = mainGlobals
  blt : X.env.builtins = builtinsNs
  above : X.s₀.heap.objs.size ≤ X.env.locals
  inj : ∀ x y c, X.env.cells.lookup x = some c → X.env.cells.lookup y = some c → x = y
  has : ∀ x, (X.env.kindOf x = some .cell ∨ X.env.kindOf x = some .free) → ∃ c, X.env.cells.lookup x = some c
  cab : ∀ x c, X.fn x = true → X.env.cells.lookup x = some c → X.s₀.heap.objs.size ≤ c
  hd : X.calm = true → X.A.handled = none
  frames : X.A.frames = some X.stack
  stk : X.stack = X.outer ∨ (X.stack = X.env :: X.outer ∧ X.env.frame = some X.env.locals)
  exf : ∀ b ∈ X.ex, b ≠ X.env.locals ∧ ∀ x c, X.env.cells.lookup x = some c → c ≠ b
  bs : ∀ b o, X.base.get? b = some o → X.s₀.heap.get? b = some o ∧ X.H₀ b = none
  bsz : X.base.objs.size ≤ X.s₀.heap.objs.size
  noex : ∀ b o, X.base.get? b = some o → b ∉ X.ex
  exfs : ∀ b ∈ X.ex, b ∉ X.fs
  funs : X.s₀.heap.FunFrames X.base X.outer
  frf : ∀ b ∈ X.fs, X.H₀ b = none

structure Inv (X : Cx) (pins : List (Addr × Obj)) (σ : List (Option V)) (H : Hp) (s : Shared) : Prop where
  ok : X.Ok
  os : s.os = X.s₀.os
  bare : AllBare s.gens
  base : Un X.fs X.ex X.H₀ H X.s₀.heap s.heap
  loc : ∃ m, s.heap.Ns X.env.locals m ∧ ∀ (i : Nat) (x : Str) (v : V), X.N[i]? = some x → σ[i]? = some (some v) → Vis X.env.scope x → ∃ u, RelV v u ∧ Look X.env s.heap m x u
  cell : ∀ x c, X.env.cells.lookup x = some c → ∃ v, s.heap.IsCell c v
  free : H X.env.locals = none
  freeC : ∀ x c, X.env.cells.lookup x = some c → H c = none
  pin : ∀ p ∈ X.pn ++ pins, s.heap.get? p.1 = some p.2 ∧ H p.1 = none ∧ p.1 ≠ X.env.locals ∧ p.1 ∉ X.fs ∧ ∀ v, p.2.data ≠ .cell v
  hok : HOk X.prog X.w H s.heap
  len : σ.length = X.N.length

section
variable {X : Cx} {pins : List (Addr × Obj)} {σ : List (Option V)} {H H' : Hp} {s : Shared} {h' : Heap}

theorem Cx.Ok.nofr (ok : X.Ok) {b : Addr} {o : Obj} (e : X.base.get? b = some o) : b ∉ X.fs := fun hb => by
  have := (ok.funs.mem hb).1
  rw [e] at this; cases this
theorem Inv.bs (I : Inv X pins σ H s) : ∀ b o, X.base.get? b = some o → s.heap.get? b = some o ∧ H b = none := fun b o e =>
  ⟨I.base.keep b o (I.ok.bs b o e).1 (I.ok.bs b o e).2 (I.ok.nofr e) (I.ok.noex b o e), I.base.free b o (I.ok.bs b o e).1 (I.ok.bs b o e).2 (I.ok.noex b o e)⟩
theorem Inv.bk (I : Inv X pins σ H s) : ∀ b o, X.base.get? b = some o → s.heap.get? b = some o := fun b o e => (I.bs b o e).1
theorem Inv.mod (I : Inv X pins σ H s) : Mod X.K X.mg X.base := I.ok.mod
theorem Inv.kIn (I : Inv X pins σ H s) : X.K.In s.heap := I.ok.mod.kin.keeps I.bk
theorem Inv.lt (I : Inv X pins σ H s) : X.env.locals < s.heap.objs.size := let ⟨_, hn, _⟩ := I.loc; hn.lt
theorem Inv.sz (I : Inv X pins σ H s) : X.s₀.heap.objs.size ≤ s.heap.objs.size := Nat.le_trans I.ok.above (Nat.le_of_lt I.lt)
theorem Inv.nofs (I : Inv X pins σ H s) {a : Addr} (h : s.heap.objs.size ≤ a) : a ∉ X.fs := fun hb => by
  obtain ⟨_, o, ho, _⟩ := I.ok.funs.mem hb
  exact absurd (Nat.lt_of_lt_of_le (Heap.lt_size ho) (Nat.le_trans I.sz h)) (Nat.lt_irrefl _)
theorem Inv.cne (I : Inv X pins σ H s) : ∀ x c, X.env.cells.lookup x = some c → c ≠ X.env.locals := fun x c e z => by
  obtain ⟨v, o, ho, hd⟩ := I.cell x c e
  obtain ⟨m, ⟨o', es, ep, ho', hd', _⟩, _⟩ := I.loc
  rw [z, ho'] at ho; cases ho; rw [hd'] at hd; cases hd
theorem Inv.funs (I : Inv X pins σ H s) : s.heap.FunFrames X.base X.outer := by
  have all : ∀ (l : List Env), (∀ b ∈ frs l, b ∈ X.fs) → X.s₀.heap.FunFrames X.base l → s.heap.FunFrames X.base l := by
    intro l
    induction l with
    | nil => intro _ _; trivial
    | cons env r ih =>
      intro hs hl
      obtain ⟨hk, ⟨L, o, hf, hn, ho, hd⟩, hr⟩ := hl
      have hL : L ∈ X.fs := hs L (by unfold frs; rw [List.filterMap_cons, hf]; exact List.mem_cons_self)
      obtain ⟨sl, e⟩ := I.base.slot L o ho (I.ok.frf L hL) hL fun z => I.ok.exfs L z hL
      exact ⟨hk, ⟨L, _, hf, hn, e, hd⟩, ih (fun b hb => hs b (by unfold frs; rw [List.filterMap_cons, hf]; exact List.mem_cons_of_mem _ hb)) hr⟩
  exact all X.outer (fun _ hb => hb) I.ok.funs
theorem Inv.stack (I : Inv X pins σ H s) : s.heap.FunFrames X.base X.stack := by
  rcases I.ok.stk with e | ⟨e, hf⟩
  · rw [e]; exact I.funs
  · rw [e]
    obtain ⟨m, hn, _⟩ := I.loc
    refine .cons (by rw [I.ok.kind]; decide) hf hn ?_ I.funs
    exact Heap.get?_none_of_le (Nat.le_trans I.ok.bsz I.ok.above)
theorem Inv.stkSub (I : Inv X pins σ H s) : ∀ b ∈ frs X.stack, b ∈ X.env.locals :: X.fs := fun b hb => by
  rcases I.ok.stk with e | ⟨e, hf⟩
  · rw [e] at hb; exact List.mem_cons_of_mem _ hb
  · rw [e] at hb
    unfold frs at hb
    rw [List.filterMap_cons, hf] at hb
    exact hb
theorem Inv.stkFree (I : Inv X pins σ H s) : ∀ b ∈ frs X.stack, H b = none := fun b hb => by
  rcases List.mem_cons.mp (I.stkSub b hb) with e | hb
  · rw [e]; exact I.free
  · obtain ⟨_, o, ho, _⟩ := I.ok.funs.mem hb
    exact I.base.free b o ho (I.ok.frf b hb) fun z => I.ok.exfs b z hb
theorem Inv.step {g' : Array GenState} {t' : Nat} {d' : Drawn} {ch : List Addr} (I : Inv X pins σ H s)
    (hch : ∀ b ∈ ch, (b ∈ X.ex ∨ X.s₀.heap.objs.size ≤ b) ∧ b ≠ X.env.locals ∧ (∀ x c, X.env.cells.lookup x = some c → c ≠ b) ∧ ∀ p ∈ X.pn ++ pins, p.1 ≠ b)
    (keep : ∀ b o, b ≠ X.env.locals → b ∉ X.fs → b ∉ ch → s.heap.get? b = some o → H b = none → h'.get? b = some o)
    (slot : ∀ b o, b ≠ X.env.locals → b ∈ X.fs → b ∉ ch → s.heap.get? b = some o → H b = none → ∃ sl, h'.get? b = some { o with slots := sl }) (free : ∀ b o, b ∉ ch → s.heap.get? b = some o → H b = none → H' b = none)
    (there : ∀ b o, b ∉ ch → s.heap.get? b = some o → ∃ o', h'.get? b = some o')
    (tups : ∀ b xs, H b = some (.tup xs) → H' b = some (.tup xs)) (frzs : ∀ b o u, H b = some (.frz o u) → H' b = some (.frz o u)) (tbls : ∀ b ps, H b = some (.tbl ps) → ∃ more, H' b = some (.tbl (ps ++ more)))
    (ns : ∀ m, s.heap.Ns X.env.locals m → h'.Ns X.env.locals m) (hok : HOk X.prog X.w H' h') (hg : AllBare g') :
    Inv X pins σ H' { s with heap := h', gens := g', drawn := d', toks := t' } := by
  have neL : ∀ b o, X.s₀.heap.get? b = some o → b ≠ X.env.locals := fun b o e => Nat.ne_of_lt (Nat.lt_of_lt_of_le (Heap.lt_size e) I.ok.above)
  have neC : ∀ b o, X.s₀.heap.get? b = some o → b ∉ X.ex → b ∉ ch := fun b o e hx hb => by
    rcases (hch b hb).1 with z | z
    · exact hx z
    · exact absurd (Nat.lt_of_lt_of_le (Heap.lt_size e) z) (Nat.lt_irrefl _)
  have cellK : ∀ x c, X.env.cells.lookup x = some c → ∀ v, s.heap.IsCell c v → h'.IsCell c v := fun x c e v ⟨o, ho, hd⟩ => by
    have nch : c ∉ ch := fun z => (hch c z).2.2.1 x c e rfl
    by_cases hc : c ∈ X.fs
    · obtain ⟨sl, q⟩ := slot c o (I.cne x c e) hc nch ho (I.freeC x c e)
      exact ⟨_, q, hd⟩
    · exact ⟨o, keep c o (I.cne x c e) hc nch ho (I.freeC x c e), hd⟩
  refine ⟨I.ok, I.os, hg, ⟨fun b o e n hb hx => ?_, fun b o e n hb hx => ?_, fun b o e n hx => ?_, fun b o e hx => ?_, fun b xs e => tups b xs (I.base.tups b xs e), fun b o xs e => frzs b o xs (I.base.frzs b o xs e), fun b ps e => ?_⟩, ?_, fun x c e => ?_, ?_, fun x c e => ?_, fun p hp => ?_, hok, I.len⟩
  · exact keep b o (neL b o e) hb (neC b o e hx) (I.base.keep b o e n hb hx) (I.base.free b o e n hx)
  · obtain ⟨sl, e1⟩ := I.base.slot b o e n hb hx
    obtain ⟨sl', e2⟩ := slot b _ (neL b o e) hb (neC b o e hx) e1 (I.base.free b o e n hx)
    exact ⟨sl', e2⟩
  · obtain ⟨o', e1⟩ := I.base.there b o e hx
    exact free b o' (neC b o e hx) e1 (I.base.free b o e n hx)
  · obtain ⟨o', e1⟩ := I.base.there b o e hx
    exact there b o' (neC b o e hx) e1
  · obtain ⟨m1, e1⟩ := I.base.tbls b ps e
    obtain ⟨m2, e2⟩ := tbls b _ e1
    exact ⟨m1 ++ m2, by rw [e2, Array.append_assoc]⟩
  · obtain ⟨m, hn, hl⟩ := I.loc
    refine ⟨m, ns m hn, fun i x v e1 e2 e3 => ?_⟩
    obtain ⟨u, r, l⟩ := hl i x v e1 e2 e3
    refine ⟨u, r, ?_⟩
    rcases l with l | ⟨k, c, e, z⟩
    · exact .inl l
    · exact .inr ⟨k, c, e, cellK x c e _ z⟩
  · obtain ⟨v, z⟩ := I.cell x c e
    exact ⟨v, cellK x c e v z⟩
  · obtain ⟨m, ⟨o, _, _, ho, _⟩, _⟩ := I.loc
    exact free _ o (fun z => (hch _ z).2.1 rfl) ho I.free
  · obtain ⟨v, o, ho, hd⟩ := I.cell x c e
    exact free c o (fun z => (hch c z).2.2.1 x c e rfl) ho (I.freeC x c e)
  · obtain ⟨e, n, ne, nf, d⟩ := I.pin p hp
    have nch : p.1 ∉ ch := fun z => (hch p.1 z).2.2.2 p hp rfl
    exact ⟨keep p.1 p.2 ne nf nch e n, free p.1 p.2 nch e n, ne, nf, d⟩
theorem Inv.un {t' : Nat} (I : Inv X pins σ H s) (u : Un X.fs [] H H' s.heap h') (hok : HOk X.prog X.w H' h') : Inv X pins σ H' { s with heap := h', toks := t' } := by
  obtain ⟨m, ⟨o, es, ep, ho, r⟩, _⟩ := id I.loc
  obtain ⟨sl, hL⟩ := u.any ho I.free (by simp)
  exact I.step (g' := s.gens) (d' := s.drawn) (ch := []) (fun _ z => nomatch z) (fun b o _ hb _ e n => u.keep b o e n hb (by simp)) (fun b o _ hb _ e n => u.slot b o e n hb (by simp)) (fun b o _ e n => u.free b o e n (by simp)) (fun b o _ e => u.there b o e (by simp)) u.tups u.frzs u.tbls (fun m' hm => by
    obtain ⟨o', es', ep', ho', r'⟩ := hm
    rw [ho] at ho'; cases ho'
    exact ⟨_, es', ep', hL, r'⟩) hok I.bare
theorem Inv.call {g' : Array GenState} {t' : Nat} {d' : Drawn} {ch : List Addr} (I : Inv X pins σ H s) (u : Un (frs X.stack) ch H H' s.heap h') (hok : HOk X.prog X.w H' h') (hg : AllBare g')
    (hch : ∀ b ∈ ch, (b ∈ X.ex ∨ X.s₀.heap.objs.size ≤ b) ∧ b ≠ X.env.locals ∧ (∀ x c, X.env.cells.lookup x = some c → c ≠ b) ∧ ∀ p ∈ X.pn ++ pins, p.1 ≠ b) :
    Inv X pins σ H' { s with heap := h', gens := g', drawn := d', toks := t' } := by
  obtain ⟨m, ⟨o, es, ep, ho, r⟩, _⟩ := id I.loc
  obtain ⟨sl, hL⟩ := u.any ho I.free fun z => (hch _ z).2.1 rfl
  exact I.step (ch := ch) hch (fun b o hL hb hc e n => u.keep b o e n (fun z => (List.mem_cons.mp (I.stkSub b z)).elim hL hb) hc) (fun b o _ _ hc e n => u.any e n hc) (fun b o hc e n => u.free b o e n hc) (fun b o hc e => u.there b o e hc) u.tups u.frzs u.tbls (fun m' hm => by
    obtain ⟨o', es', ep', ho', r'⟩ := hm
    rw [ho] at ho'; cases ho'
    exact ⟨_, es', ep', hL, r'⟩) hok hg
theorem Inv.turned {t' : Nat} {it : Addr} (I : Inv X pins σ H s) (k : ∀ b o, b ≠ it → s.heap.get? b = some o → h'.get? b = some o) (hn : H it = none) (hL : it ≠ X.env.locals)
    (h1 : it ∈ X.ex ∨ X.s₀.heap.objs.size ≤ it) (h2 : ∀ x c, X.env.cells.lookup x = some c → c ≠ it) (h3 : ∀ p ∈ X.pn ++ pins, p.1 ≠ it) : Inv X pins σ H { s with heap := h', toks := t' } := by
  have nit : ∀ b u, H b = some u → b ≠ it := fun b u e z => by rw [z, hn] at e; cases e
  refine I.step (g' := s.gens) (d' := s.drawn) (ch := [it]) (fun b hb => ?_) (fun b o _ _ hc e _ => k b o (fun z => hc (by simp [z])) e) (fun b o _ _ hc e _ => ⟨o.slots, k b o (fun z => hc (by simp [z])) e⟩) (fun _ _ _ _ n => n)
    (fun b o hc e => ⟨o, k b o (fun z => hc (by simp [z])) e⟩) (fun _ _ e => e) (fun _ _ _ e => e) (fun b ps e => ⟨#[], by rw [e]; simp⟩) (fun m hm => ?_) (fun b u e => ?_) I.bare
  · have e : b = it := by simpa using hb
    subst e
    exact ⟨h1, hL, h2, h3⟩
  · obtain ⟨o, es, ep, ho, r⟩ := hm
    exact ⟨o, es, ep, k _ o (Ne.symm hL) ho, r⟩
  · refine (I.hok b u e).stay (fun c v hc q => k c v ?_ q) (fun _ q => q) fun _ _ q => q
    rcases hc with z | z
    · rw [z]; exact nit b u e
    · exact nit c _ z
theorem Inv.tok (I : Inv X pins σ H s) (t : Nat) : Inv X pins σ H { s with toks := t } := I.un (h' := s.heap) (t' := t) Un.refl I.hok
theorem Inv.kept {t' : Nat} (I : Inv X pins σ H s) (k : ∀ b u, s.heap.get? b = some u → h'.get? b = some u) : Inv X pins σ H { s with heap := h', toks := t' } := I.un (Un.kept k) (I.hok.kept k)
theorem Inv.laid {a : Addr} {o : HO} {t' : Nat} (I : Inv X pins σ H s) (k : ∀ b u, s.heap.get? b = some u → h'.get? b = some u) (hp : s.heap.objs.size ≤ a) (new : ObjOk X.prog X.w (upd H a o) h' a o) :
    Inv X pins σ (upd H a o) { s with heap := h', toks := t' } := I.un (Un.laid k hp (I.hok.fresh hp)) (I.hok.laid k hp new)
theorem Inv.write {x e : Addr} {o : HO} {t' : Nat} (I : Inv X pins σ H s) (mu : Mut (H x)) (he : e = x ∨ H e = some (.own x)) (k : ∀ b u, b ≠ e → s.heap.get? b = some u → h'.get? b = some u) (heo : ∃ u, h'.get? e = some u)
    (new : ObjOk X.prog X.w (upd H x o) h' x o) : Inv X pins σ (upd H x o) { s with heap := h', toks := t' } := I.un (Un.write mu he k heo) (I.hok.write mu he k heo new)
theorem Inv.pins_of {pins' : List (Addr × Obj)} (I : Inv X pins σ H s) (h : ∀ p ∈ pins', s.heap.get? p.1 = some p.2 ∧ H p.1 = none ∧ p.1 ≠ X.env.locals ∧ p.1 ∉ X.fs ∧ ∀ v, p.2.data ≠ .cell v) : Inv X pins' σ H s :=
  ⟨I.ok, I.os, I.bare, I.base, I.loc, I.cell, I.free, I.freeC, fun p hp => (List.mem_append.mp hp).elim (fun z => I.pin p (List.mem_append_left _ z)) (h p), I.hok, I.len⟩

theorem nodup_ix {N : List Str} (hN : N.Nodup) {i j : Nat} {x : Str} (a : N[i]? = some x) (b : N[j]? = some x) : i = j := by
  obtain ⟨h1, e1⟩ := List.getElem?_eq_some_iff.mp a
  obtain ⟨h2, e2⟩ := List.getElem?_eq_some_iff.mp b
  exact (List.getElem_inj hN).mp (e1.trans e2.symm)
theorem store_ok2 {M : Model} {A : Around} {E : Value → Shared → Prop} {i : Nat} {x : Str} {v : V} {u : Value} {Q : Unit → Shared → Prop} (I : Inv X pins σ H s) (hN : X.N.Nodup) (hi : X.N[i]? = some x) (hx : Loc X.env.scope x) (r : RelV v u)
    (h : ∀ s', Inv X pins (σ.set i (some v)) H s' → (∃ a, Heap.SameBut a s.heap s'.heap ∧ (a = X.env.locals ∨ X.env.cells.lookup x = some a)) → Q () s') (hf : X.fn x = true ∨ X.env.scope.names.lookup x = some .local := by first | exact .inl rfl | exact .inr rfl | assumption) : wpAny M A (storeName X.env x u) Q E s := by
  obtain ⟨m, hn, hl⟩ := id I.loc
  have hcls : (X.env.scope.kind == .class || (X.env.scope.kind == .module && X.env.locals != X.env.globals)) = false := by rw [I.ok.kind]; rfl
  have hiσ : i < σ.length := by rw [I.len]; exact (List.getElem?_eq_some_iff.mp hi).1
  have cne := I.cne
  have tracked : ∀ {a : Addr} {h' : Heap}, (∃ o, s.heap.get? a = some o ∧ H a = none) → Heap.SameBut a s.heap h' → HOk X.prog X.w H h' := fun {a h'} ha hs b ob e => by
    obtain ⟨_, _, hfree⟩ := ha
    refine (I.hok b ob e).stay (fun c w' hc q => (hs.2 c ?_).trans q) (fun _ q => q) fun _ _ q => q
    rintro rfl
    rcases hc with rfl | hc
    · rw [hfree] at e; cases e
    · rw [hfree] at hc; cases hc
  rcases hx with hk | hk
  · refine wpAny_storeName_local hk hn (fun h' hn' hs => ?_) hcls
    obtain ⟨oL, _, _, hoL, _⟩ := id hn
    refine h _ ⟨I.ok, I.os, I.bare, ⟨fun b o e n hb hx => ?_, fun b o e n hb hx => ?_, I.base.free, fun b o e hx => ?_, I.base.tups, I.base.frzs, I.base.tbls⟩, ⟨_, hn', fun j y v' e1 e2 e3 => ?_⟩, fun y c e => ?_, I.free, I.freeC, fun p hp => ?_, tracked ⟨oL, hoL, I.free⟩ hs, by simpa using I.len⟩ ⟨_, hs, .inl rfl⟩
    · exact (hs.2 b (Nat.ne_of_lt (Nat.lt_of_lt_of_le (Heap.lt_size e) I.ok.above))).trans (I.base.keep b o e n hb hx)
    · obtain ⟨sl, e1⟩ := I.base.slot b o e n hb hx
      exact ⟨sl, (hs.2 b (Nat.ne_of_lt (Nat.lt_of_lt_of_le (Heap.lt_size e) I.ok.above))).trans e1⟩
    · obtain ⟨o', e1⟩ := I.base.there b o e hx
      exact ⟨o', (hs.2 b (Nat.ne_of_lt (Nat.lt_of_lt_of_le (Heap.lt_size e) I.ok.above))).trans e1⟩
    · by_cases hj : j = i
      · subst hj
        rw [hi] at e1; cases e1
        rw [List.getElem?_set_self hiσ] at e2
        cases e2
        exact ⟨u, r, .inl ⟨hk, by simp⟩⟩
      · rw [List.getElem?_set_ne (Ne.symm hj)] at e2
        obtain ⟨u', r', q⟩ := hl j y v' e1 e2 e3
        refine ⟨u', r', ?_⟩
        rcases q with ⟨k, e⟩ | ⟨k, c, e, z⟩
        · refine .inl ⟨k, ?_⟩
          have : y ≠ x := fun e => hj (nodup_ix hN e1 (e ▸ hi))
          simp [this, e]
        · exact .inr ⟨k, c, e, z.sameBut hs (cne y c e)⟩
    · obtain ⟨w', z⟩ := I.cell y c e
      exact ⟨w', z.sameBut hs (cne y c e)⟩
    · obtain ⟨e, n, ne, nf, d⟩ := I.pin p hp
      exact ⟨(hs.2 p.1 ne).trans e, n, ne, nf, d⟩
  · have hfn : X.fn x = true := by
      rcases hf with z | z
      · exact z
      · rw [z] at hk; cases hk
    obtain ⟨c, hc⟩ := I.ok.has x (.inl hk)
    obtain ⟨w', z⟩ := I.cell x c hc
    refine wpAny_storeName_cell I.ok.kind hk hc z (fun h' hc' hs => ?_)
    obtain ⟨oc, hoc, hocd⟩ := id z
    refine h { s with heap := h' } ⟨I.ok, I.os, I.bare, ⟨fun b o e n hb hx => ?_, fun b o e n hb hx => ?_, I.base.free, fun b o e hx => ?_, I.base.tups, I.base.frzs, I.base.tbls⟩, ⟨m, hn.sameBut hs (Ne.symm (cne x c hc)), fun j y v' e1 e2 e3 => ?_⟩, fun y c' e => ?_, I.free, I.freeC, fun p hp => ?_, tracked ⟨oc, hoc, I.freeC x c hc⟩ hs, by simpa using I.len⟩ ⟨c, hs, .inr hc⟩
    · exact (hs.2 b (Nat.ne_of_lt (Nat.lt_of_lt_of_le (Heap.lt_size e) (I.ok.cab x c hfn hc)))).trans (I.base.keep b o e n hb hx)
    · obtain ⟨sl, e1⟩ := I.base.slot b o e n hb hx
      exact ⟨sl, (hs.2 b (Nat.ne_of_lt (Nat.lt_of_lt_of_le (Heap.lt_size e) (I.ok.cab x c hfn hc)))).trans e1⟩
    · obtain ⟨o', e1⟩ := I.base.there b o e hx
      exact ⟨o', (hs.2 b (Nat.ne_of_lt (Nat.lt_of_lt_of_le (Heap.lt_size e) (I.ok.cab x c hfn hc)))).trans e1⟩
    · by_cases hj : j = i
      · subst hj
        rw [hi] at e1; cases e1
        rw [List.getElem?_set_self hiσ] at e2
        cases e2
        exact ⟨u, r, .inr ⟨.inl hk, c, hc, hc'⟩⟩
      · rw [List.getElem?_set_ne (Ne.symm hj)] at e2
        obtain ⟨u', r', q⟩ := hl j y v' e1 e2 e3
        refine ⟨u', r', ?_⟩
        rcases q with q | ⟨k, c', e, z'⟩
        · exact .inl q
        · refine .inr ⟨k, c', e, z'.sameBut hs ?_⟩
          rintro rfl
          exact hj (nodup_ix hN e1 (I.ok.inj _ _ _ e hc ▸ hi))
    · by_cases hcc : c' = c
      · subst hcc; exact ⟨_, hc'⟩
      · obtain ⟨w2, z2⟩ := I.cell y c' e
        exact ⟨w2, z2.sameBut hs hcc⟩
    · obtain ⟨e, n, ne, nf, d⟩ := I.pin p hp
      refine ⟨(hs.2 p.1 ?_).trans e, n, ne, nf, d⟩
      intro q
      rw [q, hoc] at e
      have q' : oc = p.2 := Option.some.inj e
      exact d w' (by rw [← q']; exact hocd)
theorem store_ok {M : Model} {A : Around} {E : Value → Shared → Prop} {i : Nat} {x : Str} {v : V} {u : Value} {Q : Unit → Shared → Prop} (I : Inv X pins σ H s) (hN : X.N.Nodup) (hi : X.N[i]? = some x) (hx : Loc X.env.scope x) (r : RelV v u)
    (h : ∀ s', Inv X pins (σ.set i (some v)) H s' → Q () s') (hf : X.fn x = true ∨ X.env.scope.names.lookup x = some .local := by first | exact .inl rfl | exact .inr rfl | assumption) : wpAny M A (storeName X.env x u) Q E s :=
  store_ok2 I hN hi hx r (fun s' I' _ => h s' I') hf
theorem Inv.call' {s' : Shared} {ch : List Addr} (I : Inv X pins σ H s) (ho : s'.os = s.os) (u : Un (frs X.stack) ch H H' s.heap s'.heap) (hok : HOk X.prog X.w H' s'.heap) (hg : AllBare s'.gens)
    (hch : ∀ b ∈ ch, (b ∈ X.ex ∨ X.s₀.heap.objs.size ≤ b) ∧ b ≠ X.env.locals ∧ (∀ x c, X.env.cells.lookup x = some c → c ≠ b) ∧ ∀ p ∈ X.pn ++ pins, p.1 ≠ b) : Inv X pins σ H' s' := by
  obtain ⟨h', g', d', t', o'⟩ := s'
  have e : o' = s.os := ho
  subst e
  exact I.call (g' := g') (t' := t') (d' := d') u hok hg hch
end
abbrev XK := Value → Option Addr → Hp → Prop
abbrev St := List (Option V)
abbrev VK := V → Hp → Prop
abbrev TE := St → Hp → VK → Prop
abbrev TT := St → Hp → (Bool → Hp → Prop) → Prop
abbrev TA := St → Hp → (List V → Hp → Prop) → Prop
structure Ends where
  nx : St → Hp → Prop
  rt : VK
  bk : St → Hp → Prop := fun _ _ => False
  ct : St → Hp → Prop := fun _ _ => False
abbrev TS := Ends → St → Hp → Prop

def EP (X : Cx) (pins : List (Addr × Obj)) (σ : St) (Q : VK) (u : Value) (s' : Shared) : Prop := ∃ v H', Inv X pins σ H' s' ∧ RelV v u ∧ Q v H'
def TP (X : Cx) (pins : List (Addr × Obj)) (σ : St) (Q : Bool → Hp → Prop) (b : Bool) (s' : Shared) : Prop := ∃ H', Inv X pins σ H' s' ∧ Q b H'
def AP (X : Cx) (pins : List (Addr × Obj)) (σ : St) (Q : List V → Hp → Prop) (us : List Value) (s' : Shared) : Prop := ∃ vs H', Inv X pins σ H' s' ∧ Vals vs us ∧ Q vs H'
def SP (X : Cx) (pins : List (Addr × Obj)) (D : Ends) (f : Flow) (s' : Shared) : Prop :=
  match f with
  | .next => ∃ σ' H', Inv X pins σ' H' s' ∧ D.nx σ' H'
  | .brk => ∃ σ' H', Inv X pins σ' H' s' ∧ D.bk σ' H'
  | .cont => ∃ σ' H', Inv X pins σ' H' s' ∧ D.ct σ' H'
  | .ret u => ∃ v σ' H', Inv X pins σ' H' s' ∧ RelV v u ∧ D.rt v H'

def PE (X : Cx) (e : Expr) (t : TE) : Prop :=
  ∀ (pins : List (Addr × Obj)) (s : Shared) (σ : St) (H : Hp) (Q : VK), Inv X pins σ H s → t σ H Q → wpAny (model X.prog X.w) X.A (eval e X.env) (EP X pins σ Q) X.xe s
def PT (X : Cx) (e : Expr) (t : TT) : Prop :=
  ∀ (pins : List (Addr × Obj)) (s : Shared) (σ : St) (H : Hp) (Q : Bool → Hp → Prop), Inv X pins σ H s → t σ H Q → wpAny (model X.prog X.w) X.A (isTrue e X.env (eval e X.env)) (TP X pins σ Q) X.xe s
def PW (X : Cx) (e : Expr) (t : TT) : Prop :=
  ∀ (whole : Sem Value) (pins : List (Addr × Obj)) (s : Shared) (σ : St) (H : Hp) (Q : Bool → Hp → Prop), Inv X pins σ H s → t σ H Q → wpAny (model X.prog X.w) X.A (isTrue e X.env whole) (TP X pins σ Q) X.xe s
theorem PW.pt {X : Cx} {e : Expr} {t : TT} (h : PW X e t) : PT X e t := h _
def PA (X : Cx) (es : List Expr) (t : TA) : Prop :=
  ∀ (pos : Pos) (pins : List (Addr × Obj)) (s : Shared) (σ : St) (H : Hp) (Q : List V → Hp → Prop), Inv X pins σ H s → t σ H Q → wpAny (model X.prog X.w) X.A (spliced (backTo pos (starEach es X.env))) (AP X pins σ Q) X.xe s
def PS (X : Cx) (st : Stmt) (t : TS) : Prop :=
  ∀ (pins : List (Addr × Obj)) (s : Shared) (σ : St) (H : Hp) (D : Ends), Inv X pins σ H s → t D σ H → wpAny (model X.prog X.w) X.A (exec st X.env) (SP X pins D) X.xe s
def PSs (X : Cx) (st : List Stmt) (t : TS) : Prop :=
  ∀ (pins : List (Addr × Obj)) (s : Shared) (σ : St) (H : Hp) (D : Ends), Inv X pins σ H s → t D σ H → wpAny (model X.prog X.w) X.A (execs st X.env) (SP X pins D) X.xe s
theorem thn {α : Type} {t : Sem α} {Q Q' : α → Shared → Prop} {M : Model} {A : Around} {E : Value → Shared → Prop} {s : Shared} (h : wpAny M A t Q E s) (hQ : ∀ a s, Q a s → Q' a s) : wpAny M A t Q' E s := wpAny_mono h hQ fun _ _ x => x
end L2

namespace L2
open PySem PySem.Spec PyProof.Rows
section
variable {X : Cx}
def tVar (i : Nat) : TE := fun σ H Q => ∃ v, σ[i]? = some (some v) ∧ Q v H
def tC (v : V) : TE := fun _ H Q => Q v H
theorem pe_var {i : Nat} {x : Str} {pos : Pos} (hN : X.N[i]? = some x) (hv : Vis X.env.scope x) (hd : (x == ("__debug__" : Str)) = false := by decide) (hcd : (x == ("__classdict__" : Str)) = false := by decide) : PE X (.Name x pos) (tVar i) := by
  intro pins s σ H Q I h
  obtain ⟨v, e, h⟩ := h
  obtain ⟨m, hn, hl⟩ := I.loc
  obtain ⟨u, r, l⟩ := hl i x v hN e hv
  have fin : EP X pins σ Q u s := ⟨v, H, I, r, h⟩
  rcases l with ⟨hk, hm⟩ | ⟨hk, c, hc, hcell⟩
  · exact wpAny_Name (wpAny_loadName_local I.ok.kind hk hn hm fin) hd
  · rcases hk with hk | hk
    · exact wpAny_Name (wpAny_loadName_cell I.ok.kind hk hc hcell fin) hd
    · exact wpAny_Name (wpAny_loadName_free I.ok.kind hk hc hcell fin hcd) hd
theorem pe_int {i j pos} : PE X (.Constant (.int i) j pos) (tC (.int i)) := fun _ _ _ H _ I h => wpAny_Constant_int ⟨.int i, H, I.tok _, ⟨_, rfl⟩, h⟩
theorem pe_bl {b j pos} : PE X (.Constant (.bool b) j pos) (tC (.bl b)) := fun _ _ _ H _ I h => Constant_bool ⟨.bl b, H, I, rfl, h⟩
theorem pe_non {j pos} : PE X (.Constant .none j pos) (tC .non) := fun _ _ _ H _ I h => Constant_none ⟨.non, H, I, rfl, h⟩
theorem pe_str {x j pos} : PE X (.Constant (.str x) j pos) (tC (.str x)) := fun _ _ _ H _ I h => Calls.Constant_str ⟨.str x, H, I.tok _, ⟨_, rfl⟩, h⟩
def Gl (X : Cx) (x : Str) : Prop := X.env.kindOf x = some .globalImplicit
theorem ld_glob {E : Value → Shared → Prop} {pins : List (Addr × Obj)} {s : Shared} {σ : St} {H : Hp} {x : Str} {u : Value} {pos : Pos} {Q : Value → Shared → Prop} (I : Inv X pins σ H s) (hg : Gl X x) (hm : X.mg x = some u) (h : Q u s)
    (hd : (x == ("__debug__" : Str)) = false := by decide) : wpAny (model X.prog X.w) X.A (eval (.Name x pos) X.env) Q E s :=
  Calls.Name_function_global I.ok.kind hg (Calls.loadGlobal_global (by rw [I.ok.glob]; exact I.mod.glob.keeps I.bk) hm h) hd
theorem ld_blt {E : Value → Shared → Prop} {pins : List (Addr × Obj)} {s : Shared} {σ : St} {H : Hp} {x : Str} {u : Value} {pos : Pos} {Q : Value → Shared → Prop} (I : Inv X pins σ H s) (hg : Gl X x) (hm : X.mg x = none) (hv : bootBuiltins x = some u) (h : Q u s)
    (hn : x ≠ "__name__" := by decide) (hd : (x == ("__debug__" : Str)) = false := by decide) : wpAny (model X.prog X.w) X.A (eval (.Name x pos) X.env) Q E s := by
  obtain ⟨mb, h1, h2⟩ := I.mod.blt
  exact Calls.Name_function_global I.ok.kind hg (Calls.loadGlobal_builtin (by rw [I.ok.glob]; exact I.mod.glob.keeps I.bk) hm (by rw [I.ok.blt]; exact h1.keeps I.bk) ((h2 x hn).trans hv) h) hd
theorem pe_glob {x : Str} {v : V} {u : Value} {pos : Pos} (hg : Gl X x) (hm : X.mg x = some u) (r : RelV v u) (hd : (x == ("__debug__" : Str)) = false := by decide) : PE X (.Name x pos) (tC v) :=
  fun _ _ _ H _ I h => ld_glob I hg hm ⟨v, H, I, r, h⟩ hd
theorem pe_bltn {x : Str} {v : V} {u : Value} {pos : Pos} (hg : Gl X x) (hm : X.mg x = none) (hv : bootBuiltins x = some u) (r : RelV v u) (hn : x ≠ "__name__" := by decide) (hd : (x == ("__debug__" : Str)) = false := by decide) : PE X (.Name x pos) (tC v) :=
  fun _ _ _ H _ I h => ld_blt I hg hm hv ⟨v, H, I, r, h⟩ hn hd
variable {a b : Expr} {ta tb : TE} {pos : Pos}
def tB (t : TE) : TT := fun σ H Q => t σ H fun x H1 => ∃ c, x = .bl c ∧ Q c H1
theorem pt_val {e : Expr} {t : TE} (h : PE X e t) (he : ∀ whole, isTrue e X.env whole = (do let v ← whole; standAt e.pos; holding [v] (truthy v)) := by intro _; rfl) : PT X e (tB t) := by
  intro pins s σ H Q I hw
  refine isTrue_plain (thn (h pins s σ H _ I hw) fun v s1 ⟨x, H1, I1, r1, q1⟩ => ?_) (he _)
  obtain ⟨d, rfl, q⟩ := q1
  cases r1
  exact wpAny_truthy_bool ⟨H1, I1, q⟩
variable {tA tB' : TT} {rest : List Expr}
def tAnd (t u : TT) : TT := fun σ H Q => t σ H fun c H1 => if c = true then u σ H1 Q else Q false H1
def tOr (t u : TT) : TT := fun σ H Q => t σ H fun c H1 => if c = true then Q true H1 else u σ H1 Q
def tNot (t : TT) : TT := fun σ H Q => t σ H fun c H1 => Q (!c) H1
theorem pw_and1 (ha : PT X a tA) : PW X (.BoolOp .And [a] pos) tA := by
  intro wh pins s σ H Q I h
  refine isTrue_and (thn (ha pins s σ H Q I h) fun c s1 e => ?_)
  cases c with
  | true => exact isTrue_and_nil e
  | false => exact e
theorem pw_or1 (ha : PT X a tA) : PW X (.BoolOp .Or [a] pos) tA := by
  intro wh pins s σ H Q I h
  refine isTrue_or (thn (ha pins s σ H Q I h) fun c s1 e => ?_)
  cases c with
  | false => exact isTrue_or_nil e
  | true => exact e
theorem pw_and (ha : PT X a tA) (hb : PW X (.BoolOp .And (b :: rest) pos) tB') : PW X (.BoolOp .And (a :: b :: rest) pos) (tAnd tA tB') := by
  intro wh pins s σ H Q I h
  refine isTrue_and (thn (ha pins s σ H _ I h) fun c s1 ⟨H1, I1, q1⟩ => ?_)
  cases c with
  | true => exact hb wh pins s1 σ H1 Q I1 q1
  | false => exact ⟨H1, I1, q1⟩
theorem pw_or (ha : PT X a tA) (hb : PW X (.BoolOp .Or (b :: rest) pos) tB') : PW X (.BoolOp .Or (a :: b :: rest) pos) (tOr tA tB') := by
  intro wh pins s σ H Q I h
  refine isTrue_or (thn (ha pins s σ H _ I h) fun c s1 ⟨H1, I1, q1⟩ => ?_)
  cases c with
  | true => exact ⟨H1, I1, q1⟩
  | false => exact hb wh pins s1 σ H1 Q I1 q1
theorem pt_not (ha : PT X a tA) : PT X (.UnaryOp .Not a pos) (tNot tA) := by
  intro pins s σ H Q I h
  exact isTrue_not (ha pins s σ H (fun c H1 => Q (!c) H1) I h)
def tAndV (ta tb : TE) : TE := fun σ H Q => ta σ H fun x H1 => ∃ c, x = .bl c ∧ if c = true then tb σ H1 Q else Q (.bl false) H1
def tNotV (ta : TE) : TE := fun σ H Q => ta σ H fun x H1 => ∃ c, x = .bl c ∧ Q (.bl (!c)) H1
theorem pe_one {op} {t : TE} (h : PE X a t) : PE X (.BoolOp op [a] pos) t := fun pins s σ H Q I hw => BoolOp_one (h pins s σ H Q I hw)
theorem pe_and (ha : PE X a ta) (hb : PE X (.BoolOp .And (b :: rest) pos) tb) : PE X (.BoolOp .And (a :: b :: rest) pos) (tAndV ta tb) := by
  intro pins s σ H Q I h
  refine BoolOp_and (thn (ha pins s σ H _ I h) fun v s1 ⟨x, H1, I1, r1, q1⟩ => ?_)
  obtain ⟨c, rfl, q1⟩ := q1
  cases r1
  refine wpAny_truthy_bool ?_
  cases c with
  | true => exact hb pins s1 σ H1 Q I1 q1
  | false => exact ⟨.bl false, H1, I1, rfl, q1⟩
theorem pe_not (ha : PE X a ta) : PE X (.UnaryOp .Not a pos) (tNotV ta) := by
  intro pins s σ H Q I h
  refine UnaryOp_ (thn (ha pins s σ H _ I h) fun v s1 ⟨x, H1, I1, r1, q1⟩ => ?_)
  obtain ⟨c, rfl, q1⟩ := q1
  cases r1
  exact not_of (wpAny_truthy_bool ⟨.bl (!c), H1, I1, rfl, q1⟩)
def tIf (t : TT) (ta tb : TE) : TE := fun σ H Q => t σ H fun c H1 => if c = true then ta σ H1 Q else tb σ H1 Q
theorem pe_ifExp {c : Expr} (hc : PT X c tA) (ha : PE X a ta) (hb : PE X b tb) : PE X (.IfExp c a b pos) (tIf tA ta tb) := by
  intro pins s σ H Q I h
  refine wpAny_IfExp (thn (hc pins s σ H _ I h) fun d s1 ⟨H1, I1, q1⟩ => ?_)
  cases d with
  | true => exact ha pins s1 σ H1 Q I1 q1
  | false => exact hb pins s1 σ H1 Q I1 q1
end
end L2

namespace L2
open PySem PySem.Spec PyProof.Rows
def SqL (K : PySem.W.Frag) (H : Hp) (a : Addr) (xs : List V) : Prop :=
  Rd H a (.lst xs) ∨
    ∃ (o : Obj) (its : Array Value) (n : Nat), K.lookup a = some o ∧ o.cls = .type "list" ∧ o.dict = none ∧ o.data = .seq its n ∧ its.size ≤ sizeLine ∧ Vals xs its.toList
def SqT (K : PySem.W.Frag) (H : Hp) (a : Addr) (xs : List V) : Prop :=
  Rd H a (.tup xs) ∨
    ∃ (o : Obj) (its : Array Value) (n : Nat), K.lookup a = some o ∧ o.cls = .type "tuple" ∧ o.data = .seq its n ∧ its.size ≤ sizeLine ∧ Vals xs its.toList
def absV : Value → Option V
  | .none => some .non
  | .bool b => some (.bl b)
  | .int i _ => some (.int i)
  | .str x _ => some (.str x)
  | .bytes b _ => some (.byt b)
  | .float b _ => some (.flt b)
  | .ref a => some (.ref a)
  | .type n => some (.ty n)
  | _ => none
theorem RelV.abs {x : V} {u : Value} (r : RelV x u) : absV u = some x := by
  cases x with
  | non => cases r; rfl
  | bl _ => cases r; rfl
  | int _ => obtain ⟨t, rfl⟩ := r; rfl
  | str _ => obtain ⟨t, rfl⟩ := r; rfl
  | byt _ => obtain ⟨t, rfl⟩ := r; rfl
  | flt _ => obtain ⟨t, rfl⟩ := r; rfl
  | ref _ => cases r; rfl
  | ty _ => cases r; rfl
theorem RelV.inj {x y : V} {u : Value} (r : RelV x u) (q : RelV y u) : x = y := Option.some.inj (r.abs.symm.trans q.abs)
theorem Vals.inj : ∀ {xs ys : List V} {us : List Value}, Vals xs us → Vals ys us → xs = ys
  | _, _, _, .nil, .nil => rfl
  | _, _, _, .cons r t, .cons r' t' => by rw [r.inj r', Vals.inj t t']
section
variable {X : Cx} {pins : List (Addr × Obj)} {σ : St} {H : Hp} {s : Shared} {a : Addr} {xs ys : List V}
theorem SqL.of {K : PySem.W.Frag} (h : H a = some (.lst xs)) : SqL K H a xs := .inl (.inl h)
theorem SqT.of {K : PySem.W.Frag} (h : H a = some (.tup xs)) : SqT K H a xs := .inl (.inl h)
theorem Inv.list (I : Inv X pins σ H s) (h : SqL X.K H a xs) : ∃ its : List Value, Vals xs its ∧ PlainL s.heap a its.toArray ∧ xs.length ≤ sizeLine := by
  rcases h with h | ⟨o, its, n, hk, hc, hd, hs, hz, r⟩
  · obtain ⟨z, its, n, r, e⟩ := h.ok I.hok
    exact ⟨its, r, ⟨_, n, e, rfl, rfl, rfl⟩, z⟩
  · refine ⟨its.toList, r, ⟨o, n, I.kIn a o hk, hc, hd, by simpa using hs⟩, ?_⟩
    have e := r.length
    simp only [Array.length_toList] at e
    omega
theorem Inv.tuple (I : Inv X pins σ H s) (h : SqT X.K H a xs) : ∃ its : List Value, Vals xs its ∧ IsTup s.heap a its.toArray ∧ xs.length ≤ sizeLine := by
  rcases h with h | ⟨o, its, n, hk, hc, hs, hz, r⟩
  · obtain ⟨z, its, r, p⟩ := h.ok I.hok
    exact ⟨its, r, p.tup, z⟩
  · refine ⟨its.toList, r, ⟨o, I.kIn a o hk, hc, n, by simpa using hs⟩, ?_⟩
    have e := r.length
    simp only [Array.length_toList] at e
    omega
theorem Inv.list_inj (I : Inv X pins σ H s) (h : SqL X.K H a xs) (h' : SqL X.K H a ys) : xs = ys := by
  obtain ⟨its, r, ⟨o, n, e, _, _, d⟩, _⟩ := I.list h
  obtain ⟨its', r', ⟨o', n', e', _, _, d'⟩, _⟩ := I.list h'
  rw [e] at e'; cases e'
  rw [d] at d'
  injection d' with d1 _
  have : its = its' := by simpa using congrArg Array.toList d1
  subst this
  exact r.inj r'
theorem Inv.tuple_inj (I : Inv X pins σ H s) (h : SqT X.K H a xs) (h' : SqT X.K H a ys) : xs = ys := by
  obtain ⟨its, r, ⟨o, e, _, n, d⟩, _⟩ := I.tuple h
  obtain ⟨its', r', ⟨o', e', _, n', d'⟩, _⟩ := I.tuple h'
  rw [e] at e'; cases e'
  rw [d] at d'
  injection d' with d1 _
  have : its = its' := by simpa using congrArg Array.toList d1
  subst this
  exact r.inj r'
end
abbrev Cx.wish (X : Cx) (E : Value → Shared → Prop) : Cx := { X with xe := E }
abbrev Cx.nox (X : Cx) : Cx := X.wish fun _ _ => False
theorem Cx.Ok.wish {X : Cx} (ok : X.Ok) (E : Value → Shared → Prop) : (X.wish E).Ok :=
  ⟨ok.mod, ok.kind, ok.glob, ok.blt, ok.above, ok.inj, ok.has, ok.cab, ok.hd, ok.frames, ok.stk, ok.exf, ok.bs, ok.bsz, ok.noex, ok.exfs, ok.funs, ok.frf⟩
theorem Cx.Ok.unwish {X : Cx} {E : Value → Shared → Prop} (ok : (X.wish E).Ok) : X.Ok :=
  ⟨ok.mod, ok.kind, ok.glob, ok.blt, ok.above, ok.inj, ok.has, ok.cab, ok.hd, ok.frames, ok.stk, ok.exf, ok.bs, ok.bsz, ok.noex, ok.exfs, ok.funs, ok.frf⟩
section
variable {X : Cx} {pins : List (Addr × Obj)} {σ : St} {H : Hp} {s : Shared} {E : Value → Shared → Prop}
theorem Inv.wish (I : Inv X pins σ H s) (E : Value → Shared → Prop) : Inv (X.wish E) pins σ H s := ⟨I.ok.wish E, I.os, I.bare, I.base, I.loc, I.cell, I.free, I.freeC, I.pin, I.hok, I.len⟩
theorem Inv.unwish (I : Inv (X.wish E) pins σ H s) : Inv X pins σ H s := ⟨I.ok.unwish, I.os, I.bare, I.base, I.loc, I.cell, I.free, I.freeC, I.pin, I.hok, I.len⟩
theorem SP.unwish {D : Ends} {f : Flow} {s' : Shared} (h : SP (X.wish E) pins D f s') : SP X pins D f s' := by
  cases f with
  | next => obtain ⟨σ', H', I, q⟩ := h; exact ⟨σ', H', I.unwish, q⟩
  | brk => obtain ⟨σ', H', I, q⟩ := h; exact ⟨σ', H', I.unwish, q⟩
  | cont => obtain ⟨σ', H', I, q⟩ := h; exact ⟨σ', H', I.unwish, q⟩
  | ret u => obtain ⟨v, σ', H', I, r, q⟩ := h; exact ⟨v, σ', H', I.unwish, r, q⟩
theorem PSs.nox {st : List Stmt} {t : TS} (h : PSs X.nox st t) : PSs X st t := fun pins s σ H D I hw =>
  wpAny_mono (h pins s σ H D (I.wish _) hw) (fun _ _ q => q.unwish) fun _ _ z => False.elim z
end
section
variable {X : Cx} {st : Stmt} {rest : List Stmt} {t u : TS} {e : Expr} {te : TE} {pos : Pos}
def tNext : TS := fun D σ H => D.nx σ H
def tSeq (t u : TS) : TS := fun D σ H => t { D with nx := u D } σ H
theorem pss_nil : PSs X [] tNext := fun _ _ σ H _ I h => wpAny_execs_nil ⟨σ, H, I, h⟩
theorem pss_cons (h1 : PS X st t) (h2 : PSs X rest u) : PSs X (st :: rest) (tSeq t u) := by
  intro pins s σ H D I h
  refine wpAny_execs_cons (thn (h1 pins s σ H { D with nx := u D } I h) fun f s1 q => ?_)
  cases f with
  | next =>
    obtain ⟨σ', H', I', q⟩ := q
    exact h2 pins s1 σ' H' D I' q
  | ret v => exact q
  | brk => exact q
  | cont => exact q
theorem pss_one (h1 : PS X st t) : PSs X [st] t := by
  intro pins s σ H D I h
  refine wpAny_execs_cons (thn (h1 pins s σ H D I h) fun f s1 q => ?_)
  cases f with
  | next => exact wpAny_execs_nil q
  | ret v => exact q
  | brk => exact q
  | cont => exact q
theorem Inv.quiet {pins : List (Addr × Obj)} {σ : St} {H : Hp} {s : Shared} (I : Inv X pins σ H s) : interactive X.env = false := by simp [interactive, I.ok.kind]
def tDrop (te : TE) : TS := fun D σ H => te σ H fun _ H1 => D.nx σ H1
theorem ps_expr (he : PE X e te) (hs : swapsWith e none pos.line X.env = pure false := by rfl) : PS X (.Expr e pos) (tDrop te) := by
  intro pins s σ H D I h
  exact wpAny_Expr_any (thn (he pins s σ H _ I h) fun v s1 ⟨x, H1, I1, r1, q1⟩ => ⟨σ, H1, I1, q1⟩) I.quiet hs
def tRet (te : TE) : TS := fun D σ H => te σ H D.rt
theorem ps_ret (he : PE X e te) : PS X (.Return (some e) pos) (tRet te) := by
  intro pins s σ H D I h
  exact wpAny_Return_some (thn (he pins s σ H _ I h) fun v s1 ⟨x, H1, I1, r1, q1⟩ => ⟨x, σ, H1, I1, r1, q1⟩)
def tIfS (c : TT) (t u : TS) : TS := fun D σ H => c σ H fun b H1 => if b = true then t D σ H1 else u D σ H1
theorem ps_if {c : Expr} {a b : List Stmt} {tc : TT} (hc : PT X c tc) (ha : PSs X a t) (hb : PSs X b u) : PS X (.If c a b pos) (tIfS tc t u) := by
  intro pins s σ H D I h
  refine wpAny_If (thn (hc pins s σ H _ I h) fun d s1 ⟨H1, I1, q1⟩ => ?_)
  cases d with
  | true => exact ha pins s1 σ H1 D I1 q1
  | false => exact hb pins s1 σ H1 D I1 q1
end
abbrev TG := V → St → Hp → (St → Hp → Prop) → Prop
abbrev TGs := List V → St → Hp → (St → Hp → Prop) → Prop
def PG (X : Cx) (target : Expr) (t : TG) : Prop :=
  ∀ (pins : List (Addr × Obj)) (s : Shared) (σ : St) (H : Hp) (v : V) (u : Value) (Q : St → Hp → Prop), Inv X pins σ H s → RelV v u → t v σ H Q →
    wpAny (model X.prog X.w) X.A (assign target X.env u) (fun _ s' => ∃ σ' H', Inv X pins σ' H' s' ∧ Q σ' H') X.xe s
def PGs (X : Cx) (ts : List Expr) (t : TGs) : Prop :=
  ∀ (pins : List (Addr × Obj)) (s : Shared) (σ : St) (H : Hp) (vs : List V) (us : List Value) (Q : St → Hp → Prop), Inv X pins σ H s → Vals vs us → t vs σ H Q →
    wpAny (model X.prog X.w) X.A (assignInOrder ((assignEach ts X.env).map (·.2)) us) (fun _ s' => ∃ σ' H', Inv X pins σ' H' s' ∧ Q σ' H') X.xe s
abbrev TSet := V → V → V → Hp → (Hp → Prop) → Prop
def PSet (X : Cx) (t : TSet) : Prop :=
  ∀ (pins : List (Addr × Obj)) (s : Shared) (σ : St) (H : Hp) (o i v : V) (ov iv u : Value) (Q : Hp → Prop), Inv X pins σ H s → RelV o ov → RelV i iv → RelV v u → t o i v H Q →
    wpAny (model X.prog X.w) X.A (setItem ov iv u) (fun _ s' => ∃ H', Inv X pins σ H' s' ∧ Q H') X.xe s
section
variable {X : Cx} {pos : Pos}
def gName (i : Nat) : TG := fun v σ H Q => Q (σ.set i (some v)) H
theorem pg_name {i : Nat} {x : Str} (hN : X.N.Nodup) (hi : X.N[i]? = some x) (hx : Loc X.env.scope x) (hf : X.fn x = true ∨ X.env.scope.names.lookup x = some .local := by first | exact .inl rfl | exact .inr rfl | assumption) : PG X (.Name x pos) (gName i) := by
  intro pins s σ H v u Q I r h
  exact wpAny_assign_Name (store_ok I hN hi hx r (fun s' I' => ⟨_, H, I', h⟩) hf)
def gNil : TGs := fun vs σ H Q => vs = [] ∧ Q σ H
def gCons (t : TG) (u : TGs) : TGs := fun vs σ H Q => ∃ v r, vs = v :: r ∧ t v σ H fun σ' H' => u r σ' H' Q
theorem pgs_nil : PGs X [] gNil := by
  intro pins s σ H vs us Q I r h
  obtain ⟨e, h⟩ := h
  subst e
  cases r
  exact assignInOrder_nil ⟨σ, H, I, h⟩
theorem pgs_cons {e : Expr} {es : List Expr} {t : TG} {u : TGs} (h1 : PG X e t) (h2 : PGs X es u)
    (hs : (assignEach (e :: es) X.env).map (·.2) = assign e X.env :: (assignEach es X.env).map (·.2) := by rfl) : PGs X (e :: es) (gCons t u) := by
  intro pins s σ H vs us Q I r h
  obtain ⟨v, vr, e1, h⟩ := h
  subst e1
  cases r with
  | cons r rr =>
    rw [hs]
    refine assignInOrder_cons (thn (h1 pins s σ H _ _ _ I r h) fun _ s1 ⟨σ1, H1, I1, q1⟩ => ?_)
    exact h2 pins s1 σ1 H1 _ _ Q I1 rr q1
def gTup (K : PySem.W.Frag) (n : Nat) (t : TGs) : TG := fun v σ H Q => ∃ a xs, v = .ref a ∧ SqT K H a xs ∧ xs.length = n ∧ t xs σ H Q
theorem pg_tup {es : List Expr} {k : Nat} {t : TGs} {n : Nat} (hc : X.calm = true) (h : PGs X es t)
    (hn : (assignEach es X.env).length = n := by rfl) (hst : (assignEach es X.env).findIdx? (·.1) = none := by rfl) : PG X (.Tuple es k pos) (gTup X.K n t) := by
  intro pins s σ H v u Q I r hw
  obtain ⟨a, xs, e1, hq, hl, hw⟩ := hw
  subst e1
  cases r
  obtain ⟨its, rv, ht, hz⟩ := I.tuple hq
  refine assign_Tuple_tuple (I.ok.hd hc) ht (by simp [hn, ← hl, rv.length]) hst fun h' hx => ?_
  have I1 : Inv X pins σ H { s with heap := h' } := I.kept (t' := s.toks) fun b o e => hx b o (Nat.ne_of_lt (Heap.lt_size e)) e
  exact h pins _ σ H xs _ Q I1 (by simpa using rv) hw
def gSub (to ti : TE) (t : TSet) : TG := fun v σ H Q => to σ H fun o H1 => ti σ H1 fun i H2 => t o i v H2 fun H3 => Q σ H3
theorem pg_sub {o i : Expr} {to ti : TE} {t : TSet} (ho : PE X o to) (hi : PE X i ti) (hs : PSet X t)
    (ha : ∀ v, assign (.Subscript o i pos) X.env v = (do
      let ov ← holding [v] (eval o X.env)
      let iv ← holding [v, ov] (eval i X.env)
      standAt pos
      holding [v, ov, iv] (setItem ov iv v)
      release [v, ov, iv] []) := by intro _; rfl) : PG X (.Subscript o i pos) (gSub to ti t) := by
  intro pins s σ H v u Q I r h
  rw [ha]
  refine wpAny_bind (wpAny_holding (thn (ho pins s σ H _ I h) fun ov s1 ⟨x, H1, I1, r1, q1⟩ => ?_))
  refine wpAny_bind (wpAny_holding (thn (hi pins s1 σ H1 _ I1 q1) fun iv s2 ⟨y, H2, I2, r2, q2⟩ => ?_))
  refine wpAny_bind (wpAny_standAt (wpAny_bind (wpAny_holding (thn (hs pins s2 σ H2 x y v ov iv u _ I2 r1 r2 r q2) fun _ s3 ⟨H3, I3, q3⟩ => ?_))))
  exact wpAny_release ⟨σ, H3, I3, q3⟩
def tAsg (te : TE) (g : TG) : TS := fun D σ H => te σ H fun x H1 => g x σ H1 D.nx
theorem ps_asg {tg e : Expr} {te : TE} {g : TG} (he : PE X e te) (hg : PG X tg g) (hs : swapsWithSole [tg] e pos.line X.env = pure false := by rfl) (hw : swappedStores [tg] e X.env = pure none := by rfl)
    (h1 : (assignEach [tg] X.env).map (·.2) = [assign tg X.env] := by rfl) : PS X (.Assign [tg] e pos) (tAsg te g) := by
  intro pins s σ H D I h
  refine wpAny_Assign_stores (thn (he pins s σ H _ I h) fun v s1 ⟨x, H1, I1, r1, q1⟩ => ?_) hs hw
  rw [h1]
  exact thn (hg pins s1 σ H1 x v _ I1 r1 q1) fun _ s2 q => q
theorem ps_set {i : Nat} {x : Str} {e : Expr} {te : TE} {pos' : Pos} (hN : X.N.Nodup) (hi : X.N[i]? = some x) (hx : Loc X.env.scope x) (he : PE X e te) (hs : swapsWith e (some (.Name x pos')) pos.line X.env = pure false := by rfl) (hf : X.fn x = true ∨ X.env.scope.names.lookup x = some .local := by first | exact .inl rfl | exact .inr rfl | assumption) :
    PS X (.Assign [.Name x pos'] e pos) (tAsg te (gName i)) := by
  intro pins s σ H D I h
  refine wpAny_Assign_Name (thn (he pins s σ H _ I h) fun v s1 ⟨y, H1, I1, r1, q1⟩ => ?_) hs
  exact store_ok I1 hN hi hx r1 (fun s2 I2 => ⟨_, H1, I2, q1⟩) hf
end
section
variable {X : Cx} {pos : Pos}
end
structure It where
  go : Nat → Hp → Prop
  yld : Nat → Hp → V → Hp → Prop
  stop : Nat → Hp → Prop
def FpOk (X : Cx) (pins : List (Addr × Obj)) (H : Hp) (b : Addr) : Prop :=
  H b = none ∧ b ≠ X.env.locals ∧ b ∉ X.fs ∧ (b ∈ X.ex ∨ X.s₀.heap.objs.size ≤ b) ∧ (∀ x c, X.env.cells.lookup x = some c → c ≠ b) ∧ ∀ p ∈ X.pn ++ pins, p.1 ≠ b
theorem Inv.fpOk {X : Cx} {pins : List (Addr × Obj)} {σ : St} {H H' : Hp} {s : Shared} {b : Addr} (I : Inv X pins σ H s) (hb : s.heap.objs.size ≤ b) (hn : H' b = none) : FpOk X pins H' b := by
  refine ⟨hn, Nat.ne_of_gt (Nat.lt_of_lt_of_le I.lt hb), I.nofs hb, .inr (Nat.le_trans I.sz hb), fun x c e z => ?_, fun p hp z => ?_⟩
  · obtain ⟨v, q⟩ := I.cell x c e
    exact absurd (Nat.lt_of_lt_of_le q.lt (by rw [z]; exact hb)) (Nat.lt_irrefl _)
  · exact absurd (Nat.lt_of_lt_of_le (Heap.lt_size (I.pin p hp).1) (by rw [z]; exact hb)) (Nat.lt_irrefl _)
structure Turn (P : Program) (w : World) (K : PySem.W.Frag) (tg : Expr) (J : It) (fp : List Addr) (it : Addr) (tn : Nat → Heap → Prop) : Prop where
  mem : it ∈ fp
  obj : ∀ i h, tn i h → ∀ b ∈ fp, ∃ o, h.get? b = some o ∧ ∀ v, o.data ≠ .cell v
  keep : ∀ i h h', tn i h → (∀ b ∈ fp, ∀ o, h.get? b = some o → h'.get? b = some o) → tn i h'
  item : ∀ (X : Cx), X.prog = P → X.w = w → X.K = K → X.calm = true → ∀ (i : Nat) (pins : List (Addr × Obj)) (s : Shared) (σ : St) (H : Hp) (E : Value → Shared → Prop), Inv X pins σ H s → (∀ b ∈ fp, FpOk X pins H b) → tn i s.heap → J.go i H →
    wpAny (model P w) X.A (pyNext (.ref it)) (fun r s1 => ∃ u, r = some u ∧
      wpAny (model P w) X.A (letOwnedTupleGo tg (.ref it) u) (fun _ s2 => ∃ x H', Inv X pins σ H' s2 ∧ RelV x u ∧ J.yld i H x H' ∧ tn (i + 1) s2.heap ∧ ∀ b ∈ fp, H' b = none) E s1) E s
  done : ∀ (X : Cx), X.prog = P → X.w = w → X.K = K → X.calm = true → ∀ (i : Nat) (pins : List (Addr × Obj)) (s : Shared) (σ : St) (H : Hp) (E : Value → Shared → Prop), Inv X pins σ H s → (∀ b ∈ fp, FpOk X pins H b) → tn i s.heap → J.stop i H →
    wpAny (model P w) X.A (pyNext (.ref it)) (fun r s1 => r = none ∧ Inv X pins σ H s1) E s
  self : ∀ (A : Around) (i : Nat) (s : Shared) (Q : Value → Shared → Prop) (E : Value → Shared → Prop), tn i s.heap → Q (.ref it) s → wpAny (model P w) A (pyIter (.ref it)) Q E s
abbrev TI := St → Hp → (It → Hp → Prop) → Prop
def PIE (X : Cx) (pins : List (Addr × Obj)) (σ : St) (tg : Expr) (R : It → Hp → Prop) (itv : Value) (s2 : Shared) : Prop :=
  ∃ (it : Addr) (fp : List Addr) (tn : Nat → Heap → Prop) (J : It) (H' : Hp), itv = .ref it ∧ Inv X pins σ H' s2 ∧ Turn X.prog X.w X.K tg J fp it tn ∧ tn 0 s2.heap ∧ (∀ b ∈ fp, FpOk X pins H' b) ∧ R J H'
def PI (X : Cx) (tg iter : Expr) (wi : TI) : Prop :=
  ∀ (pins : List (Addr × Obj)) (s : Shared) (σ : St) (H : Hp) (R : It → Hp → Prop), Inv X pins σ H s → wi σ H R →
    wpAny (model X.prog X.w) X.A (eval iter X.env) (fun v s1 => wpAny (model X.prog X.w) X.A (pyIter v) (PIE X pins σ tg R) X.xe s1) X.xe s
theorem go_of {M : Model} {A : Around} {E : Value → Shared → Prop} {s : Shared} {tg : Expr} {it : Addr} {u : Value} {o : Obj} {n : String} {vs : Array Value} {Q : Unit → Shared → Prop} (ho : s.heap.get? it = some o) (hc : o.cls = .type n) (hd : o.data = .fields vs)
    (hn : ["enumerate", "zip", "dict_itemiterator", "dict_reverseitemiterator", "odict_iterator", "itertools.zip_longest", "itertools.pairwise"].contains n = false) (hQ : Q () s) : wpAny M A (letOwnedTupleGo tg (.ref it) u) Q E s := by
  unfold letOwnedTupleGo
  cases tg <;> first
    | exact wpAny_pure hQ
    | (cases u <;> first
        | exact wpAny_pure hQ
        | (refine wpAny_bind (wpAny_load ho ?_)
           rw [hc, hd]
           show wpAny M A (if (["enumerate", "zip", "dict_itemiterator", "dict_reverseitemiterator", "odict_iterator", "itertools.zip_longest", "itertools.pairwise"].contains n && vs[0]? == some (rawInt _)) = true then _ else _) Q E s
           rw [if_neg (by intro h; rw [hn, Bool.false_and] at h; cases h)]
           exact wpAny_pure hQ))
def Itl (K : PySem.W.Frag) (a : Addr) : It :=
  ⟨fun i H => ∃ xs x, SqL K H a xs ∧ xs[i]? = some x, fun i H x H' => H' = H ∧ ∀ xs, SqL K H a xs → xs[i]? = some x, fun i H => ∃ xs, SqL K H a xs ∧ xs.length ≤ i⟩
def Itt (K : PySem.W.Frag) (a : Addr) : It :=
  ⟨fun i H => ∃ xs x, SqT K H a xs ∧ xs[i]? = some x, fun i H x H' => H' = H ∧ ∀ xs, SqT K H a xs → xs[i]? = some x, fun i H => ∃ xs, SqT K H a xs ∧ xs.length ≤ i⟩
def Itr (lo : Int) (n : Nat) : It := ⟨fun i _ => i < n, fun i H x H' => H' = H ∧ x = .int (lo + i), fun i _ => n ≤ i⟩
theorem turn_list {P : Program} {w : World} {K : PySem.W.Frag} {tg : Expr} (a it : Addr) : Turn P w K tg (Itl K a) [it] it (fun i h => h.IsListIter it a i) where
  mem := by simp
  obj := fun i h st b hb => by
    have e : b = it := by simpa using hb
    subst e
    obtain ⟨o, e, c, d⟩ := st
    exact ⟨o, e, fun v z => by rw [d] at z; cases z⟩
  keep := fun i h h' st k => st.at fun o e => k it (by simp) o e
  item := by
    intro X hP hw hK hc i pins s σ H E I hf st hg
    subst hP hw hK
    obtain ⟨xs, x, hq, hx⟩ := hg
    obtain ⟨its, rv, p, hz⟩ := I.list hq
    obtain ⟨u, hu, ru⟩ := rv.get hx
    obtain ⟨f0, f1, f2, f3, f4, f5⟩ := hf it (by simp)
    refine wpAny_pyNext_list_item st p.isList (x := u) (by simpa using hu) fun h' st' sb => ?_
    have I1 : Inv X pins σ H { s with heap := h' } := I.turned (t' := s.toks) (fun b o hb e => (sb.2 b hb).trans e) f0 f1 f3 f4 f5
    obtain ⟨o, e, c, d⟩ := id st'
    exact ⟨u, rfl, go_of (s := { s with heap := h' }) e c d (by decide) ⟨x, H, I1, ru, ⟨rfl, fun ys hy => by rw [I.list_inj hy hq]; exact hx⟩, st', fun b hb => (hf b hb).1⟩⟩
  done := by
    intro X hP hw hK hc i pins s σ H E I hf st hg
    subst hP hw hK
    obtain ⟨xs, hq, hx⟩ := hg
    obtain ⟨its, rv, p, hz⟩ := I.list hq
    obtain ⟨f0, f1, f2, f3, f4, f5⟩ := hf it (by simp)
    have hl := rv.length
    exact wpAny_pyNext_list_end (I.ok.hd hc) st p.isList (by simp; omega) fun h' eb => ⟨rfl, I.turned (t' := s.toks) (fun b o hb e => eb b o hb e) f0 f1 f3 f4 f5⟩
  self := fun _ _ _ _ _ st h => wpAny_pyIter_listiter st h
theorem turn_tuple {P : Program} {w : World} {K : PySem.W.Frag} {tg : Expr} (a it : Addr) : Turn P w K tg (Itt K a) [it] it (fun i h => h.IsTupleIter it a i) where
  mem := by simp
  obj := fun i h st b hb => by
    have e : b = it := by simpa using hb
    subst e
    obtain ⟨o, e, c, d⟩ := st
    exact ⟨o, e, fun v z => by rw [d] at z; cases z⟩
  keep := fun i h h' st k => st.at fun o e => k it (by simp) o e
  item := by
    intro X hP hw hK hc i pins s σ H E I hf st hg
    subst hP hw hK
    obtain ⟨xs, x, hq, hx⟩ := hg
    obtain ⟨its, rv, p, hz⟩ := I.tuple hq
    obtain ⟨u, hu, ru⟩ := rv.get hx
    obtain ⟨f0, f1, f2, f3, f4, f5⟩ := hf it (by simp)
    refine wpAny_pyNext_tuple_item st (show s.heap.IsTuple a its.toArray from p) (x := u) (by simpa using hu) fun h' st' sb => ?_
    have I1 : Inv X pins σ H { s with heap := h' } := I.turned (t' := s.toks) (fun b o hb e => (sb.2 b hb).trans e) f0 f1 f3 f4 f5
    obtain ⟨o, e, c, d⟩ := id st'
    exact ⟨u, rfl, go_of (s := { s with heap := h' }) e c d (by decide) ⟨x, H, I1, ru, ⟨rfl, fun ys hy => by rw [I.tuple_inj hy hq]; exact hx⟩, st', fun b hb => (hf b hb).1⟩⟩
  done := by
    intro X hP hw hK hc i pins s σ H E I hf st hg
    subst hP hw hK
    obtain ⟨xs, hq, hx⟩ := hg
    obtain ⟨its, rv, p, hz⟩ := I.tuple hq
    obtain ⟨f0, f1, f2, f3, f4, f5⟩ := hf it (by simp)
    have hl := rv.length
    exact wpAny_pyNext_tuple_end (I.ok.hd hc) st (show s.heap.IsTuple a its.toArray from p) (by simp; omega) fun h' eb => ⟨rfl, I.turned (t' := s.toks) (fun b o hb e => eb b o hb e) f0 f1 f3 f4 f5⟩
  self := fun _ _ _ _ _ st h => wpAny_pyIter_tupleiter st h
theorem turn_range {P : Program} {w : World} {K : PySem.W.Frag} {tg : Expr} (it : Addr) (lo : Int) (n : Nat) : Turn P w K tg (Itr lo n) [it] it (fun i h => IsRangeIter h it (lo + (i : Nat) * 1) ((n : Int) - (i : Nat)) 1) where
  mem := by simp
  obj := fun i h st b hb => by
    have e : b = it := by simpa using hb
    subst e
    exact ⟨_, st, fun v z => by
      have z' : Data.fields _ = Data.cell v := z
      cases z'⟩
  keep := fun i h h' st k => k it (by simp) _ st
  item := by
    intro X hP hw hK hc i pins s σ H E I hf st hg
    subst hP hw hK
    obtain ⟨f0, f1, f2, f3, f4, f5⟩ := hf it (by simp)
    have W := Walks.range (prog := X.prog) (w := X.w) (I.ok.hd hc) it lo 1 n
    refine W.item i s _ _ hg st fun v h' tk hv st' kk => ?_
    obtain ⟨t, rfl⟩ := hv
    have I1 : Inv X pins σ H { s with heap := h', toks := tk } := I.turned (fun b o hb e => kk b o (by simpa using hb) e) f0 f1 f3 f4 f5
    refine ⟨_, rfl, go_of (s := { s with heap := h', toks := tk }) (n := "range_iterator") st' rfl rfl (by decide) ⟨.int (lo + i), H, I1, ⟨t, ?_⟩, ⟨rfl, rfl⟩, st', fun b hb => (hf b hb).1⟩⟩
    rw [Int.mul_one]
  done := by
    intro X hP hw hK hc i pins s σ H E I hf st hg
    subst hP hw hK
    obtain ⟨f0, f1, f2, f3, f4, f5⟩ := hf it (by simp)
    exact wpAny_pyNext_range_end (I.ok.hd hc) st (by have : n ≤ i := hg; omega) fun h' eb => ⟨rfl, I.turned (t' := s.toks) (fun b o hb e => eb b o hb e) f0 f1 f3 f4 f5⟩
  self := fun _ _ _ _ _ st h => wpAny_pyIter_rangeiter st h
end L2

namespace L2
open PySem PySem.Spec PyProof.Rows
section
variable {X : Cx} {tg : Expr}
def iList (K : PySem.W.Frag) (tl : TE) : TI := fun σ H R => tl σ H fun x H1 => ∃ a, x = .ref a ∧ (∃ xs, SqL K H1 a xs) ∧ R (Itl K a) H1
def iTup (K : PySem.W.Frag) (tl : TE) : TI := fun σ H R => tl σ H fun x H1 => ∃ a, x = .ref a ∧ (∃ xs, SqT K H1 a xs) ∧ R (Itt K a) H1
theorem pi_list {l : Expr} {tl : TE} (hl : PE X l tl) : PI X tg l (iList X.K tl) := by
  intro pins s σ H R I h
  refine thn (hl pins s σ H _ I h) fun v s1 ⟨x, H1, I1, r1, q1⟩ => ?_
  obtain ⟨a, e, ⟨xs, hq⟩, q⟩ := q1
  subst e
  cases r1
  obtain ⟨its, rv, p, hz⟩ := I1.list hq
  refine wpAny_pyIter_list p.isList ?_
  refine ⟨s1.heap.objs.size, [s1.heap.objs.size], _, _, H1, rfl, I1.kept (t' := s1.toks) fun b o e => Heap.get?_push_of_some _ e, turn_list a _, ⟨_, Heap.get?_push_size _ rfl, rfl, rfl⟩, fun b hb => ?_, q⟩
  have e : b = s1.heap.objs.size := by simpa using hb
  subst e
  exact I1.fpOk (Nat.le_refl _) (I1.hok.fresh (Nat.le_refl _))
theorem pi_tup {l : Expr} {tl : TE} (hl : PE X l tl) : PI X tg l (iTup X.K tl) := by
  intro pins s σ H R I h
  refine thn (hl pins s σ H _ I h) fun v s1 ⟨x, H1, I1, r1, q1⟩ => ?_
  obtain ⟨a, e, ⟨xs, hq⟩, q⟩ := q1
  subst e
  cases r1
  obtain ⟨its, rv, p, hz⟩ := I1.tuple hq
  refine wpAny_pyIter_tuple (show s1.heap.IsTuple a its.toArray from p) ?_
  refine ⟨s1.heap.objs.size, [s1.heap.objs.size], _, _, H1, rfl, I1.kept (t' := s1.toks) fun b o e => Heap.get?_push_of_some _ e, turn_tuple a _, ⟨_, Heap.get?_push_size _ rfl, rfl, rfl⟩, fun b hb => ?_, q⟩
  have e : b = s1.heap.objs.size := by simpa using hb
  subst e
  exact I1.fpOk (Nat.le_refl _) (I1.hok.fresh (Nat.le_refl _))
theorem range_it {pins : List (Addr × Obj)} {σ : St} {H : Hp} {s : Shared} {R : It → Hp → Prop} {E : Value → Shared → Prop} {lo hi : Int} {t u v : Tok} {tk : Nat} (I : Inv X pins σ H s) (h1 : -(2 ^ 62) ≤ lo) (h2 : lo < 2 ^ 62) (h3 : -(2 ^ 62) ≤ hi) (h4 : hi < 2 ^ 62)
    (q : R (Itr lo (hi - lo).toNat) H) : wpAny (model X.prog X.w) X.A (pyIter (.ref s.heap.objs.size)) (PIE X pins σ tg R) E { s with heap := s.heap.push { cls := .type "range", data := .fields #[.int lo t, .int hi u, .int 1 v] }, toks := tk } := by
  refine wpAny_pyIter_range (IsRange.new ..) (small_one h1 h2 h3 h4) ?_
  have I1 : Inv X pins σ H { s with heap := s.heap.push { cls := .type "range", data := .fields #[.int lo t, .int hi u, .int 1 v] }, toks := tk } := I.kept fun b o e => Heap.get?_push_of_some _ e
  refine ⟨(s.heap.push { cls := .type "range", data := .fields #[.int lo t, .int hi u, .int 1 v] }).objs.size, [(s.heap.push { cls := .type "range", data := .fields #[.int lo t, .int hi u, .int 1 v] }).objs.size], _, _, H, rfl,
    I1.kept (t' := tk) fun b o e => Heap.get?_push_of_some _ e, turn_range _ lo (hi - lo).toNat, ?_, fun b hb => ?_, q⟩
  · have e1 : lo + ((0 : Nat) : Int) * 1 = lo := by simp
    have e2 : (((hi - lo).toNat : Nat) : Int) - ((0 : Nat) : Int) = Builtin.Range.rangeSize lo hi 1 := by rw [rangeSize_one]; split <;> omega
    show IsRangeIter _ _ (lo + ((0 : Nat) : Int) * 1) ((((hi - lo).toNat : Nat) : Int) - ((0 : Nat) : Int)) 1
    rw [e1, e2]
    exact Heap.get?_push_size _ rfl
  · have e : b = (s.heap.push { cls := .type "range", data := .fields #[.int lo t, .int hi u, .int 1 v] }).objs.size := by simpa using hb
    subst e
    exact I1.fpOk (Nat.le_refl _) (I1.hok.fresh (Nat.le_refl _))
def iRng1 (ta : TA) : TI := fun σ H R => ta σ H fun vs H1 => ∃ j : Int, vs = [.int j] ∧ -(2 ^ 62) ≤ j ∧ j < 2 ^ 62 ∧ R (Itr 0 j.toNat) H1
theorem pi_range1 {a : Expr} {ta : TA} {p pos : Pos} (hg : Gl X "range") (hm : X.mg "range" = none) (ha : PA X [a] ta) (hs : starEach [a] X.env = [(false, eval a X.env)] := by rfl) : PI X tg (.Call (.Name "range" p) [a] [] pos) (iRng1 ta) := by
  intro pins s σ H R I h
  refine Call_ (ld_blt I hg hm boot_range (PyProof.Rows.callWith_type1 (thn (ha pos pins s σ H _ I h) fun us s1 ⟨vs, H1, I1, r1, q1⟩ => ?_) hs rfl))
  obtain ⟨j, e, q1, q2, q⟩ := q1
  subst e
  cases r1 with
  | cons r rr =>
    cases rr
    obtain ⟨t, rfl⟩ := r
    exact call_range_1 (range_it I1 (by omega) (by omega) q1 q2 (by simpa using q))
def tFor (wi : TI) (g : TG) (tb : TS) : TS := fun D σ H => wi σ H fun J H1 => ∃ W : Nat → Nat → St → Hp → Prop, (∃ m, W 0 m σ H1) ∧ ∀ i m σ H, W i m σ H →
  (J.stop i H ∧ D.nx σ H) ∨ (J.go i H ∧ ∃ N : St → Hp → Prop, (∀ σ' H', N σ' H' → ∃ m', m' < m ∧ W (i + 1) m' σ' H') ∧ ∀ x H', J.yld i H x H' → g x σ H' fun σ2 H2 => tb { D with nx := N, ct := N, bk := D.nx } σ2 H2)
def pinsAt (fp : List Addr) (h : Heap) : List (Addr × Obj) := fp.filterMap fun b => (h.get? b).map fun o => (b, o)
theorem mem_pinsAt {fp : List Addr} {h : Heap} {b : Addr} {o : Obj} (hb : b ∈ fp) (e : h.get? b = some o) : (b, o) ∈ pinsAt fp h := List.mem_filterMap.mpr ⟨b, hb, by rw [e]; rfl⟩
theorem of_pinsAt {fp : List Addr} {h : Heap} {p : Addr × Obj} (hp : p ∈ pinsAt fp h) : p.1 ∈ fp ∧ h.get? p.1 = some p.2 := by
  obtain ⟨b, hb, e⟩ := List.mem_filterMap.mp hp
  cases q : h.get? b with
  | none => rw [q] at e; cases e
  | some o =>
    rw [q] at e
    have e' : (b, o) = p := Option.some.inj e
    subst e'
    exact ⟨hb, q⟩
theorem Inv.pinned {pins : List (Addr × Obj)} {σ : St} {H : Hp} {s : Shared} {fp : List Addr} (I : Inv X pins σ H s) (hf : ∀ b ∈ fp, FpOk X pins H b) (ho : ∀ b ∈ fp, ∃ o, s.heap.get? b = some o ∧ ∀ v, o.data ≠ .cell v) : Inv X (pins ++ pinsAt fp s.heap) σ H s :=
  I.pins_of fun p hp => (List.mem_append.mp hp).elim (fun z => I.pin p (List.mem_append_right _ z)) fun z => by
    obtain ⟨hb, e⟩ := of_pinsAt z
    obtain ⟨f0, f1, f2, _⟩ := hf p.1 hb
    obtain ⟨o, e', d⟩ := ho p.1 hb
    rw [e] at e'; cases e'
    exact ⟨e, f0, f1, f2, d⟩
theorem Inv.unpinned {pins pl : List (Addr × Obj)} {σ : St} {H : Hp} {s : Shared} (I : Inv X (pins ++ pl) σ H s) : Inv X pins σ H s := I.pins_of fun p hp => I.pin p (List.mem_append_right _ (List.mem_append_left _ hp))
theorem ps_for {iter : Expr} {body : List Stmt} {wi : TI} {g : TG} {tb : TS} {pos : Pos} (hp : PassesOwn (model X.prog X.w) X.A X.env X.xe) (hc : X.calm = true) (hi : PI X tg iter wi) (hg : PG X tg g) (hb : PSs X body tb)
    (hs : ∀ x, foldedSetIterable iter X.env x = pure x := by intro _; rfl) : PS X (.For tg iter body [] pos) (tFor wi g tb) := by
  intro pins s σ H D I h
  refine wpAny_For (thn (hi pins s σ H _ I h) fun v s1 h1 => thn h1 fun itv s2 h2 => ?_) hs
  obtain ⟨it, fp, tn, J, H2, e, I2, T, st2, f2, W, ⟨m0, w0⟩, turn⟩ := h2
  subst e
  have stat : ∀ {H' : Hp}, (∀ b ∈ fp, H' b = none) → ∀ b ∈ fp, FpOk X pins H' b := fun hn b hb => ⟨hn b hb, (f2 b hb).2⟩
  refine codeAny_forLoop_any (fun n s' => ∃ i σ' H', Inv X pins σ' H' s' ∧ tn i s'.heap ∧ (∀ b ∈ fp, H' b = none) ∧ W i n σ' H') ?_ m0 ⟨0, σ, H2, I2, st2, fun b hb => (f2 b hb).1, w0⟩
  rintro n s3 ⟨i, σ3, H3, I3, st3, fr3, w3⟩
  rcases turn i n σ3 H3 w3 with ⟨stop, qn⟩ | ⟨go, N, hN, step⟩
  · refine wpAny_passesOwn hp (thn (T.done X rfl rfl rfl hc i pins s3 σ3 H3 X.xe I3 (stat fr3) st3 stop) fun r s4 ⟨hr, I4⟩ => ?_)
    subst hr
    exact wpAny_execs_nil ⟨σ3, H3, I4, qn⟩
  · refine wpAny_passesOwn hp (thn (T.item X rfl rfl rfl hc i pins s3 σ3 H3 X.xe I3 (stat fr3) st3 go) fun r s4 ⟨u, hr, h4⟩ => ?_)
    subst hr
    refine wpAny_passesOwn hp (thn h4 fun _ s5 ⟨x, H5, I5, r5, y5, st5, fr5⟩ => ?_)
    have I5' := I5.pinned (stat fr5) (T.obj _ _ st5)
    refine wpAny_passesOwn hp (thn (hg _ s5 σ3 H5 x u _ I5' r5 (step x H5 y5)) fun _ s6 ⟨σ6, H6, I6, q6⟩ => ?_)
    refine wpAny_passesOwn hp (thn (hb _ s6 σ6 H6 _ I6 q6) fun f s7 q7 => ?_)
    have again : ∀ {σ7 : St} {H7 : Hp}, Inv X (pins ++ pinsAt fp s5.heap) σ7 H7 s7 → N σ7 H7 → ∃ m, m < n ∧ ∃ i σ' H', Inv X pins σ' H' s7 ∧ tn i s7.heap ∧ (∀ b ∈ fp, H' b = none) ∧ W i m σ' H' := fun {σ7 H7} I7 n7 => by
      obtain ⟨m', hm, w7⟩ := hN σ7 H7 n7
      refine ⟨m', hm, i + 1, σ7, H7, I7.unpinned, T.keep _ _ _ st5 fun b hb o e => (I7.pin (b, o) (List.mem_append_right _ (List.mem_append_right _ (mem_pinsAt hb e)))).1, fun b hb => ?_, w7⟩
      obtain ⟨o, e, d⟩ := T.obj _ _ st5 b hb
      exact (I7.pin (b, o) (List.mem_append_right _ (List.mem_append_right _ (mem_pinsAt hb e)))).2.1
    cases f with
    | next => obtain ⟨σ7, H7, I7, n7⟩ := q7; exact again I7 n7
    | cont => obtain ⟨σ7, H7, I7, n7⟩ := q7; exact again I7 n7
    | brk => obtain ⟨σ7, H7, I7, q7⟩ := q7; exact ⟨σ7, H7, I7.unpinned, q7⟩
    | ret v => obtain ⟨x7, σ7, H7, I7, r7, q7⟩ := q7; exact ⟨x7, σ7, H7, I7.unpinned, r7, q7⟩
end
theorem for_list {K : PySem.W.Frag} {a : Addr} {xs : List V} {g : TG} {tb : TS} {D : Ends} {σ : St} {H : Hp} (Pv : Nat → St → Hp → Prop) (h0 : Pv 0 σ H) (hl : ∀ i σ H, i ≤ xs.length → Pv i σ H → SqL K H a xs)
    (hs : ∀ i x σ H, xs[i]? = some x → Pv i σ H → g x σ H fun σ2 H2 => tb { D with nx := Pv (i + 1), ct := Pv (i + 1), bk := D.nx } σ2 H2) (hd : ∀ σ H, Pv xs.length σ H → D.nx σ H) :
    ∃ W : Nat → Nat → St → Hp → Prop, (∃ m, W 0 m σ H) ∧ ∀ i m σ H, W i m σ H →
      ((Itl K a).stop i H ∧ D.nx σ H) ∨ ((Itl K a).go i H ∧ ∃ N : St → Hp → Prop, (∀ σ' H', N σ' H' → ∃ m', m' < m ∧ W (i + 1) m' σ' H') ∧ ∀ x H', (Itl K a).yld i H x H' → g x σ H' fun σ2 H2 => tb { D with nx := N, ct := N, bk := D.nx } σ2 H2) := by
  refine ⟨fun i m σ H => m = xs.length - i ∧ i ≤ xs.length ∧ Pv i σ H, ⟨xs.length, by simp, Nat.zero_le _, h0⟩, ?_⟩
  rintro i m σ H ⟨rfl, hi, p⟩
  have q := hl i σ H hi p
  by_cases hlt : i < xs.length
  · refine .inr ⟨⟨xs, xs[i], q, by simp [hlt]⟩, Pv (i + 1), fun σ' H' p' => ⟨xs.length - (i + 1), by omega, rfl, hlt, p'⟩, fun x H' y => ?_⟩
    obtain ⟨e, y⟩ := y
    subst e
    exact hs i x σ _ (y xs q) p
  · have e : i = xs.length := by omega
    subst e
    exact .inl ⟨⟨xs, q, Nat.le_refl _⟩, hd σ H p⟩
theorem for_range {lo : Int} {n : Nat} {g : TG} {tb : TS} {D : Ends} {σ : St} {H : Hp} (Pv : Nat → St → Hp → Prop) (h0 : Pv 0 σ H)
    (hs : ∀ i σ H, i < n → Pv i σ H → g (.int (lo + i)) σ H fun σ2 H2 => tb { D with nx := Pv (i + 1), ct := Pv (i + 1), bk := D.nx } σ2 H2) (hd : ∀ σ H, Pv n σ H → D.nx σ H) :
    ∃ W : Nat → Nat → St → Hp → Prop, (∃ m, W 0 m σ H) ∧ ∀ i m σ H, W i m σ H →
      ((Itr lo n).stop i H ∧ D.nx σ H) ∨ ((Itr lo n).go i H ∧ ∃ N : St → Hp → Prop, (∀ σ' H', N σ' H' → ∃ m', m' < m ∧ W (i + 1) m' σ' H') ∧ ∀ x H', (Itr lo n).yld i H x H' → g x σ H' fun σ2 H2 => tb { D with nx := N, ct := N, bk := D.nx } σ2 H2) := by
  refine ⟨fun i m σ H => m = n - i ∧ i ≤ n ∧ Pv i σ H, ⟨n, by simp, Nat.zero_le _, h0⟩, ?_⟩
  rintro i m σ H ⟨rfl, hi, p⟩
  by_cases hlt : i < n
  · refine .inr ⟨hlt, Pv (i + 1), fun σ' H' p' => ⟨n - (i + 1), by omega, rfl, hlt, p'⟩, fun x H' y => ?_⟩
    obtain ⟨e, y⟩ := y
    subst e y
    exact hs i σ _ hlt p
  · have e : i = n := by omega
    subst e
    exact .inl ⟨Nat.le_refl _, hd σ H p⟩
end L2

namespace L2
open PySem PySem.Spec PyProof.Rows

abbrev R2 := V → V → Hp → VK → Prop
def OpR (X : Cx) (f : Value → Value → Sem Value) (r : R2) : Prop :=
  ∀ (pins : List (Addr × Obj)) (s : Shared) (σ : St) (H : Hp) (x y : V) (v u : Value) (Q : VK), Inv X pins σ H s → RelV x v → RelV y u → r x y H Q →
    wpAny (model X.prog X.w) X.A (f v u) (EP X pins σ Q) X.xe s
def UnR (X : Cx) (f : Value → Sem Value) (r : V → Hp → VK → Prop) : Prop :=
  ∀ (pins : List (Addr × Obj)) (s : Shared) (σ : St) (H : Hp) (x : V) (v : Value) (Q : VK), Inv X pins σ H s → RelV x v → r x H Q →
    wpAny (model X.prog X.w) X.A (f v) (EP X pins σ Q) X.xe s
def CallR (X : Cx) (f : Value) (r : List V → Hp → VK → Prop) : Prop :=
  ∀ (pins : List (Addr × Obj)) (s : Shared) (σ : St) (H : Hp) (xs : List V) (us : List Value) (Q : VK), Inv X pins σ H s → Vals xs us → r xs H Q →
    wpAny (model X.prog X.w) X.A (call f us) (EP X pins σ Q) X.xe s
def TruR (X : Cx) (r : V → Hp → (Bool → Hp → Prop) → Prop) : Prop :=
  ∀ (pins : List (Addr × Obj)) (s : Shared) (σ : St) (H : Hp) (x : V) (v : Value) (Q : Bool → Hp → Prop), Inv X pins σ H s → RelV x v → r x H Q →
    wpAny (model X.prog X.w) X.A (truthy v) (TP X pins σ Q) X.xe s

def tOp (r : R2) (ta tb : TE) : TE := fun σ H Q => ta σ H fun x H1 => tb σ H1 fun y H2 => r x y H2 Q
def tUn (r : V → Hp → VK → Prop) (ta : TE) : TE := fun σ H Q => ta σ H fun x H1 => r x H1 Q
def rI (C : Int → Int → Prop) (g : Int → Int → V) : R2 := fun x y H Q => ∃ i j, x = .int i ∧ y = .int j ∧ C i j ∧ Q (g i j) H
def rI0 (g : Int → Int → V) : R2 := fun x y H Q => ∃ i j, x = .int i ∧ y = .int j ∧ Q (g i j) H
def rU (g : Int → V) : V → Hp → VK → Prop := fun x H Q => ∃ i, x = .int i ∧ Q (g i) H

section
variable {X : Cx} {a b c : Expr} {ta tb tc : TE} {pos : Pos}

theorem binT (ha : PE X a ta) (hb : PE X b tb) {pins : List (Addr × Obj)} {s : Shared} {σ : St} {H : Hp} {R : V → V → Hp → Prop} (I : Inv X pins σ H s)
    (h : ta σ H fun x H1 => tb σ H1 fun y H2 => R x y H2) {Q : Value → Shared → Prop} {f : Value → Value → Sem Value}
    (hf : ∀ v u s2 x y H2, Inv X pins σ H2 s2 → RelV x v → RelV y u → R x y H2 → wpAny (model X.prog X.w) X.A (f v u) Q X.xe s2) :
    wpAny (model X.prog X.w) X.A (eval a X.env) (fun v s₁ => wpAny (model X.prog X.w) X.A (eval b X.env) (fun u s₂ => wpAny (model X.prog X.w) X.A (f v u) Q X.xe s₂) X.xe s₁) X.xe s := by
  refine thn (ha pins s σ H _ I h) fun v s1 ⟨x, H1, I1, r1, q1⟩ => ?_
  refine thn (hb pins s1 σ H1 _ I1 q1) fun u s2 ⟨y, H2, I2, r2, q2⟩ => ?_
  exact hf v u s2 x y H2 I2 r1 r2 q2

theorem pe_op {op : Operator} {r : R2} (ho : OpR X (binaryOp op) r) (ha : PE X a ta) (hb : PE X b tb) : PE X (.BinOp a op b pos) (tOp r ta tb) := by
  intro pins s σ H Q I h
  exact wpAny_BinOp (binT ha hb I h fun v u s2 x y H2 I2 rx ry q => ho pins s2 σ H2 x y v u Q I2 rx ry q)
theorem pe_un {op : UnaryOp} {r : V → Hp → VK → Prop} (ho : UnR X (unaryOp op) r) (ha : PE X a ta) : PE X (.UnaryOp op a pos) (tUn r ta) := by
  intro pins s σ H Q I h
  exact UnaryOp_ (thn (ha pins s σ H _ I h) fun v s1 ⟨x, H1, I1, r1, q1⟩ => ho pins s1 σ H1 x v Q I1 r1 q1)
theorem opI {f : Value → Value → Sem Value} {C : Int → Int → Prop} {g : Int → Int → Int}
    (rule : ∀ (i j : Int) (t u : Tok) (s : Shared) (Q : Value → Shared → Prop) (E : Value → Shared → Prop), C i j → Q (.int (g i j) s.toks) { s with toks := s.toks + 1 } → wpAny (model X.prog X.w) X.A (f (.int i t) (.int j u)) Q E s) :
    OpR X f (rI C fun i j => .int (g i j)) := by
  intro pins s σ H x y v u Q I rx ry h
  obtain ⟨i, j, rfl, rfl, hc, q⟩ := h
  obtain ⟨t, rfl⟩ := rx
  obtain ⟨t', rfl⟩ := ry
  exact rule i j t t' s _ _ hc ⟨.int (g i j), H, I.tok _, ⟨_, rfl⟩, q⟩
theorem opI0 {f : Value → Value → Sem Value} {g : Int → Int → Int}
    (rule : ∀ (i j : Int) (t u : Tok) (s : Shared) (Q : Value → Shared → Prop) (E : Value → Shared → Prop), Q (.int (g i j) s.toks) { s with toks := s.toks + 1 } → wpAny (model X.prog X.w) X.A (f (.int i t) (.int j u)) Q E s) :
    OpR X f (rI0 fun i j => .int (g i j)) := by
  intro pins s σ H x y v u Q I rx ry h
  obtain ⟨i, j, rfl, rfl, q⟩ := h
  obtain ⟨t, rfl⟩ := rx
  obtain ⟨t', rfl⟩ := ry
  exact rule i j t t' s _ _ ⟨.int (g i j), H, I.tok _, ⟨_, rfl⟩, q⟩
theorem opB0 {f : Value → Value → Sem Value} {g : Int → Int → Bool}
    (rule : ∀ (i j : Int) (t u : Tok) (s : Shared) (Q : Value → Shared → Prop) (E : Value → Shared → Prop), Q (.bool (g i j)) s → wpAny (model X.prog X.w) X.A (f (.int i t) (.int j u)) Q E s) :
    OpR X f (rI0 fun i j => .bl (g i j)) := by
  intro pins s σ H x y v u Q I rx ry h
  obtain ⟨i, j, rfl, rfl, q⟩ := h
  obtain ⟨t, rfl⟩ := rx
  obtain ⟨t', rfl⟩ := ry
  exact rule i j t t' s _ _ ⟨.bl (g i j), H, I, rfl, q⟩

def CDiv (i j : Int) : Prop := 0 < j ∧ j < 1073741824
def CPow (i j : Int) : Prop := 0 ≤ j ∧ j ≤ 1000000 ∧ i.natAbs < 2 ^ 64
def CMul (i j : Int) : Prop := (-(2 ^ 64) < i ∧ i < 2 ^ 64) ∨ (-(2 ^ 64) < j ∧ j < 2 ^ 64)
theorem CMul.ok {i j : Int} (h : CMul i j) : IntMulOk i j := by
  rcases h with ⟨h1, h2⟩ | ⟨h1, h2⟩
  · exact .of_left (intBits_le_64 h1 h2)
  · exact .of_right (intBits_le_64 h1 h2)
theorem op_add : OpR X (binaryOp .Add) (rI0 fun i j => .int (i + j)) := opI0 fun _ _ _ _ _ _ _ q => add_int q
theorem op_sub : OpR X (binaryOp .Sub) (rI0 fun i j => .int (i - j)) := opI0 fun _ _ _ _ _ _ _ q => sub_int q
theorem op_mul : OpR X (binaryOp .Mult) (rI CMul fun i j => .int (i * j)) := opI fun _ _ _ _ _ _ _ hc q => mul_int q hc.ok
theorem op_fdiv : OpR X (binaryOp .FloorDiv) (rI CDiv fun i j => .int (i / j)) := opI fun i j _ _ _ _ _ hc q => by
  have h1 : (0 : Int) < j := hc.1
  have h2 : j < 1073741824 := hc.2
  exact floordiv_int (by omega) (by rw [Int.fdiv_eq_ediv_of_nonneg i (by omega)]; exact q) (.inl (PyProof.noPylong_small (by omega)))
theorem op_mod : OpR X (binaryOp .Mod) (rI (fun _ j => 0 < j) fun i j => .int (i % j)) := opI fun i j _ _ _ _ _ hc q => by
  have h1 : (0 : Int) < j := hc
  exact mod_int' (by omega) (by rw [Int.fmod_eq_emod_of_nonneg i (by omega)]; exact q)
theorem op_pow : OpR X (binaryOp .Pow) (rI CPow fun i j => .int (i ^ j.toNat)) := opI fun _ _ _ _ _ _ _ hc q => pow_int_small hc.1 hc.2.1 hc.2.2 q
theorem op_shl : OpR X (binaryOp .LShift) (rI CPow fun i j => .int (i * 2 ^ j.toNat)) := opI fun _ _ _ _ _ _ _ hc q => lshift_int_small hc.1 hc.2.1 hc.2.2 q
theorem unI {f : Value → Sem Value} {g : Int → Int}
    (rule : ∀ (i : Int) (t : Tok) (s : Shared) (Q : Value → Shared → Prop) (E : Value → Shared → Prop), Q (.int (g i) s.toks) { s with toks := s.toks + 1 } → wpAny (model X.prog X.w) X.A (f (.int i t)) Q E s) :
    UnR X f (rU fun i => .int (g i)) := by
  intro pins s σ H x v Q I rx h
  obtain ⟨i, rfl, q⟩ := h
  obtain ⟨t, rfl⟩ := rx
  exact rule i t s _ _ ⟨.int (g i), H, I.tok _, ⟨_, rfl⟩, q⟩
theorem un_neg : UnR X (unaryOp .USub) (rU fun i => .int (-i)) := unI fun _ _ _ _ _ q => neg_int q
end
def scal : V → V → Bool
  | .non, .non => true | .non, .int _ => true | .int _, .non => true | .non, .bl _ => true | .bl _, .non => true | .non, .str _ => true | .str _, .non => true
  | .int _, .int _ => true | .bl _, .bl _ => true | .str _, .str _ => true | .byt _, .byt _ => true
  | .int _, .str _ => true | .str _, .int _ => true | .bl _, .str _ => true | .str _, .bl _ => true
  | _, _ => false
def rEq : R2 := fun x y H Q => scal x y = true ∧ Q (.bl (decide (x = y))) H
def rNe : R2 := fun x y H Q => scal x y = true ∧ Q (.bl (!decide (x = y))) H

theorem dec_int {i j : Int} : decide (V.int i = V.int j) = (i == j) := by
  rw [Bool.eq_iff_iff]
  simp
theorem dec_bl {i j : Bool} : decide (V.bl i = V.bl j) = (i == j) := by
  rw [Bool.eq_iff_iff]
  simp
theorem dec_str {i j : Str} : decide (V.str i = V.str j) = (i == j) := by
  rw [Bool.eq_iff_iff]
  simp
theorem dec_byt {i j : Array UInt8} : decide (V.byt i = V.byt j) = (i.toList == j.toList) := by
  rw [Bool.eq_iff_iff]
  cases i
  cases j
  simp

section
variable {X : Cx} {a b c : Expr} {ta tb tc : TE} {pos : Pos}
theorem fin_bl {pins : List (Addr × Obj)} {σ : St} {H : Hp} {s : Shared} {Q : VK} {k k' : Bool} (I : Inv X pins σ H s) (q : Q (.bl k) H) (e : k = k') : EP X pins σ Q (.bool k') s := by
  subst e
  exact ⟨.bl k, H, I, rfl, q⟩
theorem op_eq : OpR X (compareOp .Eq) rEq := by
  intro pins s σ H x y v u Q I rx ry h
  obtain ⟨hs, q⟩ := h
  cases x with
  | non =>
    cases rx
    cases y with
    | non => cases ry; exact PySem.EqNone.eq_none_none (fin_bl I q (by simp))
    | bl j => cases ry; exact PySem.EqNone.eq_none_bool (fin_bl I q (by simp))
    | int j => obtain ⟨t', rfl⟩ := ry; exact PySem.EqNone.eq_none_int (fin_bl I q (by simp))
    | str j => obtain ⟨t', rfl⟩ := ry; exact PySem.EqNone.eq_none_str (fin_bl I q (by simp))
    | _ => exact absurd (show false = true from hs) Bool.false_ne_true
  | bl i =>
    cases rx
    cases y with
    | non => cases ry; exact PySem.EqNone.eq_bool_none (fin_bl I q (by simp))
    | bl j => cases ry; exact eq_bool (fin_bl I q dec_bl)
    | str j => obtain ⟨t', rfl⟩ := ry; exact PySem.EqMixed.eq_bool_str (fin_bl I q (by simp))
    | _ => exact absurd (show false = true from hs) Bool.false_ne_true
  | int i =>
    obtain ⟨t, rfl⟩ := rx
    cases y with
    | non => cases ry; exact PySem.EqNone.eq_int_none (fin_bl I q (by simp))
    | int j => obtain ⟨t', rfl⟩ := ry; exact eq_int (fin_bl I q dec_int)
    | str j => obtain ⟨t', rfl⟩ := ry; exact PySem.EqMixed.eq_int_str (fin_bl I q (by simp))
    | _ => exact absurd (show false = true from hs) Bool.false_ne_true
  | str i =>
    obtain ⟨t, rfl⟩ := rx
    cases y with
    | non => cases ry; exact PySem.EqNone.eq_str_none (fin_bl I q (by simp))
    | bl j => cases ry; exact PySem.EqMixed.eq_str_bool (fin_bl I q (by simp))
    | int j => obtain ⟨t', rfl⟩ := ry; exact PySem.EqMixed.eq_str_int (fin_bl I q (by simp))
    | str j => obtain ⟨t', rfl⟩ := ry; exact eq_str (fin_bl I q dec_str)
    | _ => exact absurd (show false = true from hs) Bool.false_ne_true
  | byt i =>
    obtain ⟨t, rfl⟩ := rx
    cases y with
    | byt j => obtain ⟨t', rfl⟩ := ry; exact PySem.W.eq_bytes (fin_bl I q dec_byt)
    | _ => exact absurd (show false = true from hs) Bool.false_ne_true
  | _ => cases y <;> exact absurd (show false = true from hs) Bool.false_ne_true
theorem op_ne : OpR X (compareOp .NotEq) rNe := by
  intro pins s σ H x y v u Q I rx ry h
  obtain ⟨hs, q⟩ := h
  cases x with
  | non =>
    cases rx
    cases y with
    | non => cases ry; exact PySem.EqNone.ne_none_none (fin_bl I q (by simp))
    | bl j => cases ry; exact PySem.EqNone.ne_none_bool (fin_bl I q (by simp))
    | int j => obtain ⟨t', rfl⟩ := ry; exact PySem.EqNone.ne_none_int (fin_bl I q (by simp))
    | str j => obtain ⟨t', rfl⟩ := ry; exact PySem.EqNone.ne_none_str (fin_bl I q (by simp))
    | _ => exact absurd (show false = true from hs) Bool.false_ne_true
  | bl i =>
    cases rx
    cases y with
    | non => cases ry; exact PySem.EqNone.ne_bool_none (fin_bl I q (by simp))
    | bl j => cases ry; exact ne_bool (fin_bl I q (congrArg not dec_bl))
    | str j => obtain ⟨t', rfl⟩ := ry; exact PySem.EqMixed.ne_bool_str (fin_bl I q (by simp))
    | _ => exact absurd (show false = true from hs) Bool.false_ne_true
  | int i =>
    obtain ⟨t, rfl⟩ := rx
    cases y with
    | non => cases ry; exact PySem.EqNone.ne_int_none (fin_bl I q (by simp))
    | int j => obtain ⟨t', rfl⟩ := ry; exact ne_int (fin_bl I q (congrArg not dec_int))
    | str j => obtain ⟨t', rfl⟩ := ry; exact PySem.EqMixed.ne_int_str (fin_bl I q (by simp))
    | _ => exact absurd (show false = true from hs) Bool.false_ne_true
  | str i =>
    obtain ⟨t, rfl⟩ := rx
    cases y with
    | non => cases ry; exact PySem.EqNone.ne_str_none (fin_bl I q (by simp))
    | bl j => cases ry; exact PySem.EqMixed.ne_str_bool (fin_bl I q (by simp))
    | int j => obtain ⟨t', rfl⟩ := ry; exact PySem.EqMixed.ne_str_int (fin_bl I q (by simp))
    | str j => obtain ⟨t', rfl⟩ := ry; exact ne_str (fin_bl I q (congrArg not dec_str))
    | _ => exact absurd (show false = true from hs) Bool.false_ne_true
  | byt i =>
    obtain ⟨t, rfl⟩ := rx
    cases y with
    | byt j => obtain ⟨t', rfl⟩ := ry; exact PySem.W.ne_bytes (fin_bl I q (congrArg not dec_byt))
    | _ => exact absurd (show false = true from hs) Bool.false_ne_true
  | _ => cases y <;> exact absurd (show false = true from hs) Bool.false_ne_true

theorem op_lt : OpR X (compareOp .Lt) (rI0 fun i j => .bl (decide (i < j))) := opB0 fun _ _ _ _ _ _ _ q => lt_int q
theorem op_le : OpR X (compareOp .LtE) (rI0 fun i j => .bl (decide (i ≤ j))) := opB0 fun _ _ _ _ _ _ _ q => le_int q
theorem op_gt : OpR X (compareOp .Gt) (rI0 fun i j => .bl (decide (j < i))) := opB0 fun _ _ _ _ _ _ _ q => gt_int q
theorem op_ge : OpR X (compareOp .GtE) (rI0 fun i j => .bl (decide (j ≤ i))) := opB0 fun _ _ _ _ _ _ _ q => ge_int q
theorem op_in_str : OpR X (compareOp .In) (fun x y H Q => ∃ i j, x = .str i ∧ y = .str j ∧ Q (.bl (!(Builtin.Str.occurrences j i 0 j.length 1).isEmpty)) H) := by
  intro pins s σ H x y v u Q I rx ry h
  obtain ⟨i, j, rfl, rfl, q⟩ := h
  obtain ⟨t, rfl⟩ := rx
  obtain ⟨t', rfl⟩ := ry
  exact in_str (fin_bl I q rfl)

theorem nomark (b : Expr) {op : CmpOp} (h : op ≠ .In := by decide) (h2 : op ≠ .NotIn := by decide) : behindInMarks op b = false := by
  have e1 : (op == CmpOp.In) = false := by cases op <;> first | rfl | exact absurd rfl h
  have e2 : (op == CmpOp.NotIn) = false := by cases op <;> first | rfl | exact absurd rfl h2
  cases b <;> simp [behindInMarks, e1, e2]
theorem pe_cmpR {op : CmpOp} {r : R2} (ho : OpR X (compareOp op) r) (ha : PE X a ta) (hb : PE X b tb) (hm : behindInMarks op b = false) : PE X (.Compare a [op] [b] pos) (tOp r ta tb) := by
  intro pins s σ H Q I h
  exact wpAny_Compare1 (binT ha hb I h fun v u s2 x y H2 I2 rx ry q => ho pins s2 σ H2 x y v u Q I2 rx ry q) hm
def tTest (t : TE) : TT := fun σ H Q => t σ H fun x H' => ∃ k, x = .bl k ∧ Q k H'
theorem pt_cmpR {op : CmpOp} {r : R2} (ho : OpR X (compareOp op) r) (ha : PE X a ta) (hb : PE X b tb) (hm : behindInMarks op b = false) : PT X (.Compare a [op] [b] pos) (tTest (tOp r ta tb)) := by
  intro pins s σ H Q I h
  refine wpAny_isTrue_Compare1 (thn (ha pins s σ H _ I h) fun v s1 ⟨x, H1, I1, r1, q1⟩ => thn (hb pins s1 σ H1 _ I1 q1) fun u s2 ⟨y, H2, I2, r2, q2⟩ =>
    thn (ho pins s2 σ H2 x y v u _ I2 r1 r2 q2) fun c s3 ⟨z, H3, I3, r3, k, e, q3⟩ => ?_) hm
  subst e
  cases r3
  exact wpAny_truthy_bool ⟨H3, I3, q3⟩
def tChain (r r' : R2) (ta tb tc : TE) : TE := fun σ H Q => ta σ H fun x H1 => tb σ H1 fun y H2 => r x y H2 fun z H3 => ∃ k, z = .bl k ∧
  (if k = true then tc σ H3 fun w' H4 => r' y w' H4 Q else Q (.bl false) H3)
theorem pt_chain {op op' : CmpOp} {r r' : R2} (ho : OpR X (compareOp op) r) (ho' : OpR X (compareOp op') r') (ha : PE X a ta) (hb : PE X b tb) (hc : PE X c tc)
    (hm : lastMarks [op, op'] [b, c] = false := by with_unfolding_all rfl) : PT X (.Compare a [op, op'] [b, c] pos) (tTest (tChain r r' ta tb tc)) := by
  intro pins s σ H Q I h
  refine isTrue_chain (thn (ha pins s σ H _ I h) fun v s1 ⟨x, H1, I1, r1, q1⟩ => test_link (thn (hb pins s1 σ H1 _ I1 q1) fun u s2 ⟨y, H2, I2, r2, q2⟩ =>
    thn (ho pins s2 σ H2 x y v u _ I2 r1 r2 q2) fun d s3 ⟨z, H3, I3, r3, k, e, q3⟩ => ?_)) hm
  subst e
  cases r3
  refine wpAny_truthy_bool ?_
  cases k with
  | false =>
    obtain ⟨k', e', q'⟩ := q3
    cases e'
    exact ite_ff ⟨H3, I3, q'⟩
  | true =>
    refine ite_tt (test_last (thn (hc pins s3 σ H3 _ I3 q3) fun w' s4 ⟨z', H4, I4, r4, q4⟩ => thn (ho' pins s4 σ H4 y z' u w' _ I4 r2 r4 q4) fun d' s5 ⟨z2, H5, I5, r5, k2, e2, q5⟩ => ?_))
    subst e2
    cases r5
    exact wpAny_truthy_bool ⟨H5, I5, q5⟩
def TruV (K : PySem.W.Frag) (x : V) (H : Hp) (k : Bool) : Prop :=
  match x with
  | .non => k = false
  | .bl b => k = b
  | .int i => k = (i != 0)
  | .str y => y.length ≤ sizeLine ∧ k = ((y.length : Int) != 0)
  | .byt y => y.size ≤ sizeLine ∧ k = ((y.size : Int) != 0)
  | .ref p => (∃ xs, SqL K H p xs ∧ k = !xs.isEmpty) ∨ (∃ xs, SqT K H p xs ∧ k = !xs.isEmpty) ∨ ∃ kvs, H p = some (.dK kvs) ∧ k = !kvs.isEmpty
  | _ => False
theorem isEmpty_kv {κ : Type} {kvs : List (κ × V)} {vs : List (κ × Value)} (r : KV kvs vs) : (!vs.isEmpty) = !kvs.isEmpty := by
  cases r <;> rfl
theorem isEmpty_of {xs : List V} {its : List Value} (r : Vals xs its) : (!its.toArray.isEmpty) = !xs.isEmpty := by
  cases r <;> simp
theorem line63 : (sizeLine : Nat) < 2 ^ 63 := by rw [sizeLine_eq]; decide
theorem tru_ok : TruR X (fun x H Q => ∃ k, TruV X.K x H k ∧ Q k H) := by
  intro pins s σ H x v Q I rx h
  obtain ⟨k, e, q⟩ := h
  have hl := line63
  have hs : sizeLine = 16777216 := sizeLine_eq
  cases x with
  | non =>
    cases rx
    have e' : k = false := e
    subst e'
    exact truthy_none ⟨H, I, q⟩
  | bl b =>
    cases rx
    have e' : k = b := e
    subst e'
    exact wpAny_truthy_bool ⟨H, I, q⟩
  | int i =>
    obtain ⟨t, rfl⟩ := rx
    have e' : k = (i != 0) := e
    subst e'
    exact PySem.P.truthy_int ⟨H, I, q⟩
  | str y =>
    obtain ⟨t, rfl⟩ := rx
    obtain ⟨hy, e'⟩ : y.length ≤ sizeLine ∧ k = ((y.length : Int) != 0) := e
    subst e'
    exact PySem.P.truthy_str (by omega) ⟨H, I.tok _, q⟩
  | byt y =>
    obtain ⟨t, rfl⟩ := rx
    obtain ⟨hy, e'⟩ : y.size ≤ sizeLine ∧ k = ((y.size : Int) != 0) := e
    subst e'
    exact PySem.W.truthy_bytes (by omega) ⟨H, I.tok _, q⟩
  | ref p =>
    cases rx
    have e' : (∃ xs, SqL X.K H p xs ∧ k = !xs.isEmpty) ∨ (∃ xs, SqT X.K H p xs ∧ k = !xs.isEmpty) ∨ ∃ kvs, H p = some (.dK kvs) ∧ k = !kvs.isEmpty := e
    rcases e' with ⟨xs, hx, e'⟩ | ⟨xs, hx, e'⟩ | ⟨kvs, hx, e'⟩
    · subst e'
      obtain ⟨its, r, pl, hz⟩ := I.list hx
      have hlen := r.length
      exact wpAny_truthy_list pl.isList (by simp only [List.size_toArray]; omega) ⟨H, I.tok _, by rw [isEmpty_of r]; exact q⟩
    · subst e'
      obtain ⟨its, r, pl, hz⟩ := I.tuple hx
      have hlen := r.length
      exact truthy_tuple pl (by simp only [List.size_toArray]; omega) ⟨H, I.tok _, by rw [isEmpty_of r]; exact q⟩
    · subst e'
      obtain ⟨hz, hS, vs, r, m⟩ : kvs.length ≤ sizeLine ∧ (p == sysModules) = false ∧ ∃ vs, KV kvs vs ∧ s.heap.DictOf (mixKind X.prog X.w) p vs := I.hok p _ hx
      have hlen : kvs.length = vs.length := Paired.length r
      exact wpAny_truthy_dict hS m (by omega) ⟨H, I.tok _, by rw [isEmpty_kv r]; exact q⟩
  | _ => exact (show False from e).elim
theorem pt_truth (ha : PE X a ta) (he : ∀ whole, isTrue a X.env whole = (do let v ← whole; standAt a.pos; holding [v] (truthy v))) :
    PT X a (fun σ H Q => ta σ H fun x H' => ∃ k, TruV X.K x H' k ∧ Q k H') := by
  intro pins s σ H Q I h
  exact isTrue_plain (thn (ha pins s σ H _ I h) fun v s1 ⟨x, H1, I1, r1, q1⟩ => tru_ok pins s1 σ H1 x v Q I1 r1 q1) (he _)
theorem op_add_str : OpR X (binaryOp .Add) (fun x y H Q => ∃ i j, x = .str i ∧ y = .str j ∧ i.length + j.length ≤ sizeLine ∧ Q (.str (i ++ j)) H) := by
  intro pins s σ H x y v u Q I rx ry h
  obtain ⟨i, j, rfl, rfl, hz, q⟩ := h
  obtain ⟨t, rfl⟩ := rx
  obtain ⟨t', rfl⟩ := ry
  exact add_str (fun t' tk => ⟨.str (i ++ j), H, I.tok _, ⟨_, rfl⟩, q⟩) hz
theorem vals1 {x : V} {us : List Value} (r : Vals [x] us) : ∃ u, us = [u] ∧ RelV x u := by
  cases r with
  | cons r1 r2 => cases r2; exact ⟨_, rfl, r1⟩
theorem call_abs : CallR X (.builtin "abs") (fun xs H Q => ∃ i, xs = [.int i] ∧ Q (.int (if i < 0 then -i else i)) H) := by
  intro pins s σ H xs us Q I r h
  obtain ⟨i, rfl, q⟩ := h
  obtain ⟨u, rfl, t, rfl⟩ := vals1 r
  exact call_abs_int fun u tk => ⟨.int (if i < 0 then -i else i), H, I.tok _, ⟨_, rfl⟩, q⟩
theorem call_str_int : CallR X (.type "str") (fun xs H Q => ∃ i, xs = [.int i] ∧ i.natAbs.log2 < 1920 ∧ Q (.str (toString i)) H) := by
  intro pins s σ H xs us Q I r h
  obtain ⟨i, rfl, hz, q⟩ := h
  obtain ⟨u, rfl, t, rfl⟩ := vals1 r
  exact PySem.P.str_of_int hz ⟨.str _, H, I.tok _, ⟨_, rfl⟩, q⟩
end
end L2

namespace L2
open PySem PySem.Spec PyProof.Rows
structure ObjM (h : Heap) (x dx C : Addr) (mA : Str → Option Value) : Prop where
  obj : h.get? x = some (PySem.W.instObj C dx)
  ns : h.Ns1 dx mA
  ne : dx ≠ x

theorem lookIn_ns {h : Heap} {dx : Addr} {mA : Str → Option Value} (n : h.Ns1 dx mA) : ∃ od, h.get? dx = some od ∧ ∀ name, PySem.W.lookIn name od = some (mA name) := by
  obtain ⟨o, es, ep, ho, hd, hk, _, hm⟩ := n
  refine ⟨o, ho, fun name => ?_⟩
  have e := hm name
  unfold nsFind findBy at e
  rw [← Array.find?_toList] at e
  unfold PySem.W.lookIn
  rw [hd]
  dsimp only
  split
  · rename_i y q
    rw [q] at e
    exact congrArg some e
  · rename_i q
    rw [q] at e
    have a : es.toList.any (·.refKey) = false := by
      rw [List.any_eq_false]
      intro y hy
      obtain ⟨z, t, hkey⟩ := hk y (Array.mem_toList_iff.mp hy)
      simp [DictEntry.refKey, hkey]
    have a' : ¬ es.toList.any (·.refKey) = true := by rw [a]; exact Bool.false_ne_true
    rw [if_neg a']
    exact congrArg some e

theorem ObjM.look {h : Heap} {x dx C : Addr} {mA : Str → Option Value} (I : ObjM h x dx C mA) : ∃ od, PySem.W.InstAt h x (PySem.W.instObj C dx) C (some od) ∧ ∀ name, PySem.W.lookIn name od = some (mA name) :=
  let ⟨od, ho, hl⟩ := lookIn_ns I.ns
  ⟨od, ⟨I.obj, rfl, rfl, ho⟩, hl⟩

section
variable {prog : Program} {w : World} {A : Around} {E : Value → Shared → Prop} {s : Shared} {K : PySem.W.Frag} {x dx C f : Addr} {mA : Str → Option Value} {name : Str} {v : Value}

end
theorem RelO.some_of {v : V} {o : Option Value} (r : RelO (some v) o) : ∃ u, o = some u ∧ RelV v u := by
  cases o with
  | none => exact (show False from r).elim
  | some u => exact ⟨u, rfl, r⟩
theorem handed_of {v : V} {u : Value} (r : RelV v u) : PySem.W.handedIn u = true := by
  cases v with
  | non => cases (show u = Value.none from r); rfl
  | bl b => cases (show u = Value.bool b from r); rfl
  | int i => obtain ⟨t, e⟩ := (show ∃ t, u = Value.int i t from r); cases e; rfl
  | str x => obtain ⟨t, e⟩ := (show ∃ t, u = Value.str x t from r); cases e; rfl
  | byt b => obtain ⟨t, e⟩ := (show ∃ t, u = Value.bytes b t from r); cases e; rfl
  | flt b => obtain ⟨t, e⟩ := (show ∃ t, u = Value.float b t from r); cases e; rfl
  | ref a => cases (show u = Value.ref a from r); rfl
  | ty n => cases (show u = Value.type n from r); rfl

section
variable {P : Program} {w : World} {H H' : Hp} {h h' : Heap} {a C dx : Addr} {fs fs' : List (Str × V)}
theorem ins_get (hok : HOk P w H h) (e : H a = some (.ins C dx fs)) : ∃ mA, ObjM h a dx C mA ∧ (∀ f, RelO (fs.lookup f) (mA f)) ∧ PySem.Within mA (fs.map (·.1)) ∧ fs.length ≤ 1000 ∧ H dx = some (.own a) := by
  obtain ⟨d, z, ne, ob, mA, n, r, q⟩ := (show ObjOk P w H h a (.ins C dx fs) from hok a _ e)
  exact ⟨mA, ⟨ob, n, ne⟩, r, q, z, d⟩
end
structure Cls (K : PySem.W.Frag) (C : Addr) : Prop where
  pg : PySem.W.plainGet K C Str.empty = true
  hd : PySem.W.hasDictIn K C = true
  po : PySem.W.plainOver K C = true
  sa : PySem.W.findIn K (.ref C) "__setattr__" = some (some (.builtin "object.__setattr__"))
theorem Cls.get {K : PySem.W.Frag} {C : Addr} (c : Cls K C) (f : Str) : PySem.W.plainGet K C f = true := c.pg
section
variable {X : Cx} {pins : List (Addr × Obj)} {σ : St} {H : Hp} {s : Shared} {a C dx : Addr} {fs : List (Str × V)} {f : Str} {v : V} {A : Around} {E : Value → Shared → Prop}
theorem attr_of {prog : Program} {w : World} {env : Env} {e : Expr} {f : Str} {pos : Pos} {s : Shared} {Q : Value → Shared → Prop} (hb : attributeBase e f env (eval e env) = eval e env)
    (h : wpAny (model prog w) A (eval e env) (fun o s₁ => wpAny (model prog w) A (getAttr o f true) Q E s₁) E s) : wpAny (model prog w) A (eval (.Attribute e f pos) env) Q E s :=
  Attribute_any_ h (by rw [arm_eval_Attribute, hb])
end
section
variable {X : Cx} {o e value : Expr} {f : Str} {pos pos' tpos : Pos} {ta tv : TE}
end
section
variable {X : Cx} {pins : List (Addr × Obj)} {σ : St} {H : Hp} {s : Shared} {A : Around} {E : Value → Shared → Prop} {Q : Value → Shared → Prop} {c : Value} {b : Bool}
inductive TyOf (K : PySem.W.Frag) (H : Hp) : V → Value → Prop where
  | non : TyOf K H .non (.type "NoneType")
  | bl (x : Bool) : TyOf K H (.bl x) (.type "bool")
  | int (i : Int) : TyOf K H (.int i) (.type "int")
  | str (x : Str) : TyOf K H (.str x) (.type "str")
  | flt (x : UInt64) : TyOf K H (.flt x) (.type "float")
  | lst {a : Addr} {xs : List V} (e : H a = some (.lst xs)) : TyOf K H (.ref a) (.type "list")
  | frz {a : Addr} {o : Obj} {xs : List V} (e : H a = some (.frz o (.lst xs))) : TyOf K H (.ref a) (.type "list")
  | tup {a : Addr} {xs : List V} (e : H a = some (.tup xs)) : TyOf K H (.ref a) (.type "tuple")
  | dK {a : Addr} {kvs : List (Key × V)} (e : H a = some (.dK kvs)) : TyOf K H (.ref a) (.type "dict")
  | dT {a : Addr} {kvs : List (List Key × V)} (e : H a = some (.dT kvs)) : TyOf K H (.ref a) (.type "dict")
  | ins {a C dx : Addr} {fs : List (Str × V)} (e : H a = some (.ins C dx fs)) (cl : Cls K C) (ha : PySem.W.findIn K (.ref C) "__class__" = some (some (.builtin "object.__class__")))
      (hn : PySem.W.specialIn K (.builtin "object.__class__") "__get__" = some (some (.builtin "getset_descriptor.__get__"))) (htk : PySem.W.takesIn K (.builtin "object.__class__") = some true)
      (hm : PySem.W.mroIn K C (.type "object") = some true) : TyOf K H (.ref a) (.ref C)
theorem isinst_ok {x : V} {u t : Value} (I : Inv X pins σ H s) (rx : RelV x u) (ty : TyOf X.K H x t) (e : PySem.W.kitOne X.K t c = some b) (h : ∀ tk, Q (.bool b) { s with toks := tk }) :
    wpAny (model X.prog X.w) A (call (.builtin "isinstance") [u, c]) Q E s := by
  cases ty with
  | non => cases (show u = Value.none from rx); exact PySem.W.kia_one PySem.W.kitx_none I.kIn True.intro e (fun z => nomatch z) h
  | bl y => cases (show u = Value.bool y from rx); exact PySem.W.kia_one PySem.W.kitx_bool I.kIn True.intro e (fun z => nomatch z) h
  | int i => obtain ⟨t, q⟩ := (show ∃ t, u = Value.int i t from rx); cases q; exact PySem.W.kia_one PySem.W.kitx_int I.kIn True.intro e (fun z => nomatch z) h
  | str y => obtain ⟨t, q⟩ := (show ∃ t, u = Value.str y t from rx); cases q; exact PySem.W.kia_one PySem.W.kitx_str I.kIn True.intro e (fun z => nomatch z) h
  | flt y => obtain ⟨t, q⟩ := (show ∃ t, u = Value.float y t from rx); cases q; exact PySem.W.kia_one PySem.W.kitx_float I.kIn True.intro e (fun z => nomatch z) h
  | @lst a xs ea =>
    cases (show u = Value.ref a from rx)
    obtain ⟨_, _, n, _, h1⟩ := (show ObjOk X.prog X.w H s.heap a (.lst xs) from I.hok a _ ea)
    exact PySem.W.kia_one PySem.W.kitx_list I.kIn ⟨_, h1, rfl⟩ e (fun z => nomatch z) h
  | @frz a ob xs ea =>
    cases (show u = Value.ref a from rx)
    obtain ⟨_, _, _, n, _, h1⟩ := (show ObjOk X.prog X.w H s.heap a (.frz ob (.lst xs)) from I.hok a _ ea)
    exact PySem.W.kia_one PySem.W.kitx_list I.kIn ⟨_, h1, rfl⟩ e (fun z => nomatch z) h
  | @tup a xs ea =>
    cases (show u = Value.ref a from rx)
    obtain ⟨_, _, _, p'⟩ := (show ObjOk X.prog X.w H s.heap a (.tup xs) from I.hok a _ ea)
    have p := p'.tup
    obtain ⟨o, h1, h2, _⟩ := p
    exact PySem.W.kia_one PySem.W.kitx_tuple I.kIn ⟨o, h1, h2⟩ e (fun z => nomatch z) h
  | @dK a kvs ea =>
    cases (show u = Value.ref a from rx)
    obtain ⟨_, _, vs, _, p⟩ := (show ObjOk X.prog X.w H s.heap a (.dK kvs) from I.hok a _ ea)
    obtain ⟨o, es, ep, h1, h2, _⟩ := p
    exact PySem.W.kia_one PySem.W.kitx_dict I.kIn ⟨o, h1, h2.1⟩ e (fun z => nomatch z) h
  | @dT a kvs ea =>
    cases (show u = Value.ref a from rx)
    obtain ⟨_, _, xs, _, o, es, ep, h1, h2, _⟩ := (show ObjOk X.prog X.w H s.heap a (.dT kvs) from I.hok a _ ea)
    exact PySem.W.kia_one PySem.W.kitx_dict I.kIn ⟨o, h1, h2.1⟩ e (fun z => nomatch z) h
  | @ins a C dx fs ea cl ha hn htk hm =>
    cases (show u = Value.ref a from rx)
    obtain ⟨mA, O, _⟩ := ins_get I.hok ea
    obtain ⟨od, J, _⟩ := O.look
    exact PySem.W.kia_one (PySem.W.kitx_own (cl.get _) cl.hd ha hn htk hm) I.kIn J e (fun z => nomatch z) h
end
end L2

namespace L2
open PySem PySem.Spec PyProof.Rows
structure Room (k : Nat) (A : Around) : Prop where
  hd : A.handled = none
  dp : A.depth + 3 * k + 5 < recursionLimit
  un : A.units + 16 * k + 200 < cLine
  gd : A.guards = some []
theorem Room.mono {j k : Nat} {A : Around} (r : Room k A) (h : j ≤ k) : Room j A := ⟨r.hd, by have := r.dp; omega, by have := r.un; omega, r.gd⟩
theorem Room.deeper {k : Nat} {A : Around} (r : Room (k + 1) A) (env : Env) : Room k (A.deeper env) :=
  ⟨r.hd, by have := r.dp; show A.depth + 1 + 3 * k + 5 < _; omega, by have := r.un; show A.units + 3 + 16 * k + 200 < _; omega, r.gd⟩
theorem make_depth {A : Around} {C : Addr} {us : List Value} {kw : List (Str × Value)} : (A.under (.builtin "type.__call__" ⟨.ref C :: us, kw⟩)).depth = A.depth + 1 := by
  first | rfl | simp [Around.under, Code.weight, Code.isCreation, Code.isGuard, Code.isCaller, Code.frames, Code.isFrame, guardIds]
theorem make_units {A : Around} {C : Addr} {us : List Value} {kw : List (Str × Value)} : (A.under (.builtin "type.__call__" ⟨.ref C :: us, kw⟩)).units = A.units + 1 := by
  first | rfl | simp [Around.under, Code.cUnits, Code.frames, Code.isFrame]
theorem Room.make {k : Nat} {A : Around} (r : Room (k + 1) A) (C : Addr) (us : List Value) (kw : List (Str × Value)) : Room k (A.under (.builtin "type.__call__" ⟨.ref C :: us, kw⟩)) :=
  ⟨r.hd, by have := r.dp; rw [make_depth]; omega, by have := r.un; rw [make_units]; omega, (show _ from by first | exact r.gd | (simpa [Around.under, Code.isGuard, Code.guardAt, guardIds] using r.gd))⟩
theorem Room.depth {k : Nat} {A : Around} (r : Room k A) : A.depth < recursionLimit := by have := r.dp; omega
def tNil : TA := fun _ H Q => Q [] H
def tCons (ta : TE) (tr : TA) : TA := fun σ H Q => ta σ H fun x H1 => tr σ H1 fun xs H2 => Q (x :: xs) H2
section
variable {X : Cx} {e : Expr} {es : List Expr} {te : TE} {t : TA} {pos : Pos}
theorem pa_nil : PA X [] tNil := fun _ _ _ _ H Q I h => Calls.spliced_nil ⟨[], H, I, .nil, h⟩
theorem pa_cons (ha : PE X e te) (hr : PA X es t) (hs : starEach (e :: es) X.env = (false, eval e X.env) :: starEach es X.env := by rfl) : PA X (e :: es) (tCons te t) := by
  intro pos pins s σ H Q I h
  rw [hs]
  show wpAny _ _ (spliced ((false, eval e X.env) :: backTo pos (starEach es X.env))) _ _ s
  refine Calls.spliced_cons (thn (ha pins s σ H _ I h) fun u s1 ⟨x, H1, I1, r1, q1⟩ => ?_)
  exact thn (hr pos pins s1 σ H1 _ I1 q1) fun us s2 ⟨xs, H2, I2, r2, q2⟩ => ⟨x :: xs, H2, I2, .cons r1 r2, q2⟩
def tTup (t : TA) : TE := fun σ H Q => t σ H fun xs H1 => xs.length ≤ sizeLine ∧ ∀ p, H1 p = none → Q (.ref p) (upd H1 p (.tup xs))
def tLst (t : TA) : TE := fun σ H Q => t σ H fun xs H1 => xs.length ≤ sizeLine ∧ ∀ p, H1 p = none → Q (.ref p) (upd H1 p (.lst xs))
theorem pe_tup {x1} (h : PA X es t) : PE X (.Tuple es x1 pos) (tTup t) := by
  intro pins s σ H Q I hq
  refine wpAny_Tuple_spliced (thn (h pos pins s σ H _ I hq) fun us s1 ⟨xs, H1, I1, r, z, q⟩ => ⟨by rw [← r.length]; exact z, ?_⟩)
  have hf : H1 s1.heap.objs.size = none := I1.hok.fresh (Nat.le_refl _)
  refine ⟨.ref s1.heap.objs.size, upd H1 s1.heap.objs.size (.tup xs), I1.laid (t' := s1.toks) (fun b u e => Heap.get?_push_of_some _ e) (Nat.le_refl _) ?_, rfl, q _ hf⟩
  exact ⟨z, us, r, TupX.new _ _⟩
theorem pe_lst (h : PA X es t) : PE X (.List es pos) (tLst t) := by
  intro pins s σ H Q I hq
  refine wpAny_List_spliced (thn (h pos pins s σ H _ I hq) fun us s1 ⟨xs, H1, I1, r, z, q⟩ => ⟨by rw [← r.length]; exact z, ?_⟩)
  have hf : H1 s1.heap.objs.size = none := I1.hok.fresh (Nat.le_refl _)
  refine ⟨.ref s1.heap.objs.size, upd H1 s1.heap.objs.size (.lst xs), I1.laid (t' := s1.toks) (fun b u e => Heap.get?_push_of_some _ e) (Nat.le_refl _) ?_, rfl, q _ hf⟩
  exact ⟨z, us, 0, r, Heap.get?_push_size _ rfl⟩
end
abbrev Sp := List V → Hp → VK → XK → Prop
abbrev CXT := List Env → Hp → Shared → XK → Value → Shared → Prop
structure Env0 (P : Program) (w : World) (K : PySem.W.Frag) (mg : Str → Option Value) (base : Heap) (A : Around) (outer : List Env) (s : Shared) (H : Hp) : Prop where
  frames : A.frames = some outer
  mod : Mod K mg base
  bs : ∀ b o, base.get? b = some o → s.heap.get? b = some o ∧ H b = none
  bsz : base.objs.size ≤ s.heap.objs.size
  funs : s.heap.FunFrames base outer
  frf : ∀ b ∈ frs outer, H b = none
  hok : HOk P w H s.heap
  bare : AllBare s.gens
def CE (outer : List Env) (P : Program) (w : World) (H : Hp) (s : Shared) (Q : VK) (u : Value) (s' : Shared) : Prop :=
  ∃ v H', s'.os = s.os ∧ AllBare s'.gens ∧ Un (frs outer) [] H H' s.heap s'.heap ∧ HOk P w H' s'.heap ∧ RelV v u ∧ Q v H'
def CR (CX : CXT) (outer : List Env) (P : Program) (w : World) (H : Hp) (s : Shared) (Q : VK) (E : XK) (r : Result) (s' : Shared) : Prop :=
  match r with
  | .ok (.ret u) => CE outer P w H s Q u s'
  | .ok _ => False
  | .error e => CX outer H s E e s'
structure FnOk (P : Program) (w : World) (K : PySem.W.Frag) (mg : Str → Option Value) (base : Heap) (CX : CXT) (k : Nat) (f : Addr) (fd : FuncData) (ps : List Str) (sp : Sp) : Prop where
  len : ∀ vs H Q E, sp vs H Q E → vs.length = ps.length
  run : ∀ (A : Around) (outer : List Env) (s : Shared) (H : Hp) (args : Args) (us : List Value) (vs : List V) (Q : VK) (E : XK), Room k A → Env0 P w K mg base A outer s H → BindsTo s fd args (ps.zip us) → Vals vs us → sp vs H Q E →
    codeAny (model P w) A (.call (.ref f) args) (CR CX outer P w H s Q E) s
theorem FnOk.imp {P : Program} {w : World} {K : PySem.W.Frag} {mg : Str → Option Value} {base : Heap} {CX : CXT} {k : Nat} {f : Addr} {fd : FuncData} {ps : List Str} {sp sp' : Sp} (F : FnOk P w K mg base CX k f fd ps sp)
    (h : ∀ vs H Q E, sp' vs H Q E → sp vs H Q E) : FnOk P w K mg base CX k f fd ps sp' :=
  ⟨fun vs H Q E q => F.len vs H Q E (h _ _ _ _ q), fun A outer s H args us vs Q E hr he hb hv hs => F.run A outer s H args us vs Q E hr he hb hv (h _ _ _ _ hs)⟩

theorem Env0.make {P : Program} {w : World} {K : PySem.W.Frag} {mg : Str → Option Value} {base : Heap} {A : Around} {outer : List Env} {s : Shared} {H : Hp} (e : Env0 P w K mg base A outer s H) (C : Addr) (us : List Value) (kw : List (Str × Value)) :
    Env0 P w K mg base (A.under (.builtin "type.__call__" ⟨.ref C :: us, kw⟩)) outer s H := ⟨by first | exact e.frames | (simpa [Around.under, Code.envs, Code.isFrame, pushEnvs] using e.frames), e.mod, e.bs, e.bsz, e.funs, e.frf, e.hok, e.bare⟩
section
variable {X : Cx} {pins : List (Addr × Obj)} {σ : St} {H : Hp} {s s' : Shared}
theorem Inv.env0 (I : Inv X pins σ H s) : Env0 X.prog X.w X.K X.mg X.base X.A X.stack s H :=
  ⟨I.ok.frames, I.ok.mod, I.bs, Nat.le_trans I.ok.bsz I.sz, I.stack, I.stkFree, I.hok, I.bare⟩
theorem Inv.after {Q : VK} {u : Value} (I : Inv X pins σ H s) (h : CE X.stack X.prog X.w H s Q u s') : EP X pins σ Q u s' := by
  obtain ⟨v, H', os, bare, un, hok, r, q⟩ := h
  obtain ⟨hh, g, d, t, os'⟩ := s'
  obtain rfl : os' = s.os := os
  exact ⟨v, H', I.call (h' := hh) (g' := g) (d' := d) (t' := t) (ch := []) un hok bare (fun b z => absurd z (by simp)), r, q⟩
end
def tCall (sp : Sp) (dvs : List V) (E : XK) (t : TA) : TE := fun σ H Q => t σ H fun vs H1 => sp (vs ++ dvs) H1 Q E
def Binds (K : PySem.W.Frag) (fd : FuncData) (ps : List Str) (ds : List Value) : Prop :=
  ∀ (s : Shared) (us : List Value), K.In s.heap → (us ++ ds).length = ps.length → BindsTo s fd ⟨us, []⟩ (ps.zip (us ++ ds))
theorem Binds.all {K : PySem.W.Frag} {fd : FuncData} {ps : List Str} (h : ∀ us : List Value, us.length = ps.length → bindArgs fd ⟨us, []⟩ = pure (ps.zip us)) : Binds K fd ps [] := fun s us _ hl => by
  rw [List.append_nil] at hl ⊢
  exact .of_eq (h us hl)
def Passes (CX : CXT) (X : Cx) (E : XK) : Prop := ∀ (pins : List (Addr × Obj)) (σ : St) (H : Hp) (s : Shared) (e : Value) (s' : Shared), Inv X pins σ H s → CX X.stack H s E e s' → X.xe e s'

section
variable {X : Cx} {CX : CXT} {k : Nat} {f C : Addr} {fd : FuncData} {ps : List Str} {sp : Sp} {dvs : List V} {ds : List Value} {E : XK} {x m : Str} {p pos apos : Pos} {e o : Expr} {es : List Expr} {ta : TE} {t : TA}
theorem run_fn {pins : List (Addr × Obj)} {σ : St} {H : Hp} {s : Shared} {Q : VK} {us : List Value} {vs : List V} (F : FnOk X.prog X.w X.K X.mg X.base CX k f fd ps sp) (hr : Room k X.A) (hb : Binds X.K fd ps ds) (hd : Vals dvs ds) (hx : Passes CX X E)
    (I : Inv X pins σ H s) (r : Vals vs us) (h : sp (vs ++ dvs) H Q E) : wpAny (model X.prog X.w) X.A (call (.ref f) us) (EP X pins σ Q) X.xe s := by
  have r2 : Vals (vs ++ dvs) (us ++ ds) := r.append hd
  have hl : (us ++ ds).length = ps.length := by rw [← r2.length]; exact F.len _ _ _ _ h
  refine wpAny_call (codeAny_mono (F.run X.A X.stack s H ⟨us, []⟩ (us ++ ds) (vs ++ dvs) Q E hr I.env0 (hb s us I.kIn hl) r2 h) fun r s' hq => ?_)
  cases r with
  | error e => exact hx pins σ H s e s' I hq
  | ok fl =>
    cases fl with
    | ret u => exact I.after hq
    | next => exact False.elim hq
    | brk => exact False.elim hq
    | cont => exact False.elim hq

theorem pe_call (F : FnOk X.prog X.w X.K X.mg X.base CX k f fd ps sp) (hr : Room k X.A) (hg : Gl X x) (hm : X.mg x = some (.ref f)) (hk : PySem.W.keepIn X.K (.ref f) = true) (hb : Binds X.K fd ps ds) (hd : Vals dvs ds) (hx : Passes CX X E)
    (ha : PA X (e :: es) t) (hdb : (x == ("__debug__" : Str)) = false := by decide) (he : starEach (e :: es) X.env = (false, eval e X.env) :: starEach es X.env := by rfl) (hpl : (backTo pos (starEach es X.env)).any (·.1) = false := by rfl) :
    PE X (.Call (.Name x p) (e :: es) [] pos) (tCall sp dvs E t) := by
  intro pins s σ H Q I h
  refine wpAny_Call_Name_kw (ld_glob I hg hm ?_ hdb)
  refine PySem.W.callWith_K (h₀ := X.base) I.ok.mod.kin hk (thn (ha pos pins s σ H _ I h) fun us s1 ⟨vs, H1, I1, r, q⟩ => ⟨I1.kIn, ?_⟩) he hpl
  exact run_fn F hr hb hd hx I1 r q
end
section
variable {X : Cx} {CX : CXT} {k : Nat} {f C : Addr} {fd : FuncData} {ps ks : List Str} {sp : Sp} {E : XK} {x m : Str} {p pos apos kpos : Pos} {e o : Expr} {es : List Expr} {kws : List Keyword} {te ta : TE} {t tk : TA} {nm : Option Str}
variable {g : List Value → List Value → List Value} {gV : List V → List V → List V}
end
structure FnScope (N P : List Str) (sc : Scope) : Prop where
  kind : sc.kind = .function
  co : sc.isCoroutine = false
  gen : sc.isGenerator = false
  nd : N.Nodup
  pre : N.take P.length = P
  par : ∀ x ∈ P, sc.names.lookup x = some .local ∨ sc.names.lookup x = some .cell
  nofree : ∀ y ∈ sc.names, y.2 ≠ .free

theorem bindL_out {kindOf : Str → Option NameKind} {x : Str} : ∀ {binds : List (Str × Value)} {m : Str → Option Value}, (∀ v, (x, v) ∉ binds) → bindL kindOf binds m x = m x
  | [], _, _ => rfl
  | (n, v) :: r, m, h => by
    unfold bindL
    rw [bindL_out fun w hw => h w (List.mem_cons_of_mem _ hw)]
    split
    · have : x ≠ n := by rintro rfl; exact h v List.mem_cons_self
      simp [this]
    · rfl
theorem bindC_out {kindOf : Str → Option NameKind} {x : Str} : ∀ {binds : List (Str × Value)} {m : Str → Option Value}, (∀ v, (x, v) ∉ binds) → bindC kindOf binds m x = m x
  | [], _, _ => rfl
  | (n, v) :: r, m, h => by
    unfold bindC
    rw [bindC_out fun w hw => h w (List.mem_cons_of_mem _ hw)]
    split
    · rfl
    · have : x ≠ n := by rintro rfl; exact h v List.mem_cons_self
      simp [this]
theorem bindL_get {kindOf : Str → Option NameKind} {x : Str} {v : Value} : ∀ {P : List Str} {vs : List Value} {i : Nat} {m : Str → Option Value}, P.Nodup → P[i]? = some x → vs[i]? = some v → kindOf x = some .local →
    bindL kindOf (P.zip vs) m x = some v
  | [], _, _, _, _, h, _, _ => by simp at h
  | _ :: _, [], _, _, _, _, h, _ => by simp at h
  | p :: P, w :: vs, 0, m, nd, h1, h2, hk => by
    simp at h1 h2; subst h1; subst h2
    show bindL kindOf ((p, w) :: P.zip vs) m p = _
    unfold bindL
    rw [bindL_out fun v hv => (List.nodup_cons.mp nd).1 (List.of_mem_zip hv).1, if_pos hk]
    simp
  | p :: P, w :: vs, i + 1, m, nd, h1, h2, hk => by
    show bindL kindOf ((p, w) :: P.zip vs) m x = _
    unfold bindL
    exact bindL_get (i := i) (List.nodup_cons.mp nd).2 (by simpa using h1) (by simpa using h2) hk
theorem bindC_get {kindOf : Str → Option NameKind} {x : Str} {v : Value} : ∀ {P : List Str} {vs : List Value} {i : Nat} {m : Str → Option Value}, P.Nodup → P[i]? = some x → vs[i]? = some v → kindOf x ≠ some .local →
    bindC kindOf (P.zip vs) m x = some v
  | [], _, _, _, _, h, _, _ => by simp at h
  | _ :: _, [], _, _, _, _, h, _ => by simp at h
  | p :: P, w :: vs, 0, m, nd, h1, h2, hk => by
    simp at h1 h2; subst h1; subst h2
    show bindC kindOf ((p, w) :: P.zip vs) m p = _
    unfold bindC
    rw [bindC_out fun v hv => (List.nodup_cons.mp nd).1 (List.of_mem_zip hv).1, if_neg hk]
    simp
  | p :: P, w :: vs, i + 1, m, nd, h1, h2, hk => by
    show bindC kindOf ((p, w) :: P.zip vs) m x = _
    unfold bindC
    exact bindC_get (i := i) (List.nodup_cons.mp nd).2 (by simpa using h1) (by simpa using h2) hk
def start (N : List Str) (vs : List V) : St := vs.map some ++ List.replicate (N.length - vs.length) none
def cxOf (CX : CXT) (P : Program) (w : World) (K : PySem.W.Frag) (mg : Str → Option Value) (base : Heap) (N : List Str) (qual : Str) (scope : Scope) (f : Addr) (cd : Value) (A : Around) (outer : List Env) (s : Shared) (H : Hp) (E : XK) : Cx where
  prog := P
  w := w
  K := K
  mg := mg
  base := base
  A := A.deeper (envOfC qual scope s.heap.objs.size f cd)
  N := N
  s₀ := s
  H₀ := H
  env := envOfC qual scope s.heap.objs.size f cd
  outer := outer
  stack := envOfC qual scope s.heap.objs.size f cd :: outer
  ex := []
  calm := true
  fn := fun _ => true
  pn := []
  xe := fun e s' => wpAny (model P w) (A.deeper (envOfC qual scope s.heap.objs.size f cd)) (leaving (envOfC qual scope s.heap.objs.size f cd) e) (fun _ s'' => CX outer H s E e s'') (fun e' s'' => CX outer H s E e' s'') s'

theorem cell_has {sc : Scope} {n : Nat} {x : Str} (h : sc.names.lookup x = some .cell) : ∃ c, (cellsFrom n sc.names []).lookup x = some c := by
  have q := PySem.W.cellsFrom_some sc.names n [] (.inl h)
  exact Option.isSome_iff_exists.mp q

theorem inv_start {CX : CXT} {P : Program} {w : World} {K : PySem.W.Frag} {mg : Str → Option Value} {base : Heap} {N ps : List Str} {qual : Str} {scope : Scope} {f : Addr} {cd : Value} {A : Around} {outer : List Env} {s s1 : Shared} {H : Hp} {E : XK} {us : List Value} {vs : List V}
    (S : FnScope N ps scope) (hd : A.handled = none) (e0 : Env0 P w K mg base A outer s H) (hl : vs.length = ps.length) (r : Vals vs us)
    (x : InCallC s s.heap.objs.size (bindL (envOfC qual scope s.heap.objs.size f cd).kindOf (ps.zip us) fun _ => none) (cellsFrom (s.heap.objs.size + 1) scope.names []) (bindC (envOfC qual scope s.heap.objs.size f cd).kindOf (ps.zip us) fun _ => none) s1) :
    Inv (cxOf CX P w K mg base N qual scope f cd A outer s H E) [] (start N vs) H s1 := by
  have hpl : ps.length ≤ N.length := by have := congrArg List.length S.pre; rw [List.length_take] at this; omega
  obtain ⟨h1, tk, rfl, hk⟩ := x.done
  have noA : ∀ b : Addr, b ∉ (cxOf CX P w K mg base N qual scope f cd A outer s H E).ex := fun b z => absurd (show b ∈ ([] : List Addr) from z) (by simp)
  refine ⟨⟨e0.mod, S.kind, rfl, rfl, Nat.le_refl _, fun y z c h1 h2 => ?_, fun y hy => ?_, fun y c _ h => ?_, fun _ => hd, Around.frames_deeper e0.frames, .inr ⟨rfl, rfl⟩, fun b z => absurd z (noA b), e0.bs, e0.bsz, fun b _ _ => noA b, fun b z => absurd z (noA b), e0.funs, e0.frf⟩,
    rfl, e0.bare, Un.kept hk, ⟨_, x.toInCall.ns, fun i y v h1 h2 h3 => ?_⟩, fun y c h => ⟨_, x.cell y c h⟩, e0.hok.fresh (Nat.le_refl _), fun y c h => ?_, fun p hp => absurd (show p ∈ ([] : List (Addr × Obj)) from hp) (by simp), e0.hok.kept hk, ?_⟩
  · exact name_of_addr x.apart (PySem.mem_of_lookup h1) (PySem.mem_of_lookup h2)
  · have hy : scope.names.lookup y = some .cell ∨ scope.names.lookup y = some .free := hy
    rcases hy with hy | hy
    · exact cell_has hy
    · exact absurd rfl (S.nofree _ (PySem.mem_of_lookup hy))
  · exact Nat.le_of_lt (x.above y c (PySem.mem_of_lookup h))
  · have hi : i < vs.length := by
      unfold start at h2
      by_cases hi : i < vs.length
      · exact hi
      · rw [List.getElem?_append_right (by simpa using hi)] at h2
        rw [List.getElem?_replicate] at h2
        split at h2 <;> cases h2
    have ha : vs[i]? = some v := by
      unfold start at h2
      rw [List.getElem?_append_left (by simpa using hi), List.getElem?_map] at h2
      cases e : vs[i]? with
      | none => rw [e] at h2; cases h2
      | some a => rw [e] at h2; cases h2; rfl
    obtain ⟨u, hu, rv⟩ := r.get ha
    have hp : ps[i]? = some y := by
      rw [← S.pre, List.getElem?_take_of_lt (by omega)]; exact h1
    have ndP : ps.Nodup := by rw [← S.pre]; exact S.nd.sublist (List.take_sublist _ _)
    refine ⟨u, rv, ?_⟩
    rcases S.par y (List.mem_of_getElem? hp) with k | k
    · exact .inl ⟨k, bindL_get ndP hp hu k⟩
    · obtain ⟨c, e⟩ := cell_has (n := s.heap.objs.size + 1) k
      refine .inr ⟨.inl k, c, e, ?_⟩
      have q := x.cell y c e
      rw [bindC_get ndP hp hu (by show scope.names.lookup y ≠ _; rw [k]; decide)] at q
      exact q
  · exact e0.hok.fresh (Nat.le_of_lt (x.above y c (PySem.mem_of_lookup h)))
  · unfold start
    show _ = N.length
    rw [List.length_append, List.length_map, List.length_replicate]
    omega
theorem fn_of {CX : CXT} {P : Program} {w : World} {K : PySem.W.Frag} {mg : Str → Option Value} {base : Heap} {k : Nat} {f : Addr} {name qual : Str} {params : Arguments} {body : List Stmt} {scope : Scope} {dV kV doc pm cdv ct oc : Value} {an od : Option Addr}
    {osl : Array (Option Value)} {N ps : List Str} {sp : Sp} (lk : K.lookup f = some ⟨oc, od, .func (PySem.W.fnOf name qual params body scope dV kV doc pm an cdv ct), osl⟩) (hcd : PySem.W.codeIn K cdv qual = true) (S : FnScope N ps scope)
    (len : ∀ vs H Q E, sp vs H Q E → vs.length = ps.length)
    (hbody : ∀ (A : Around) (outer : List Env) (s : Shared) (H : Hp) (vs : List V) (Q : VK) (E : XK), Room k (A.deeper (envOfC qual scope s.heap.objs.size f cdv)) → sp vs H Q E →
      ∃ t, PSs (cxOf CX P w K mg base N qual scope f cdv A outer s H E) body t ∧ t { nx := fun _ H' => Q .non H', rt := Q } (start N vs) H) :
    FnOk P w K mg base CX (k + 1) f (PySem.W.fnOf name qual params body scope dV kV doc pm an cdv ct) ps sp := by
  refine ⟨len, fun A outer s H args us vs Q E hr e0 hb r hsp => ?_⟩
  have hl := len _ _ _ _ hsp
  have KX : K.In s.heap := e0.mod.kin.keeps fun b o e => (e0.bs b o e).1
  have lim : s.heap.NoLimit := e0.mod.nolimit.keeps fun b o e => (e0.bs b o e).1
  have hkind : ∀ y ∈ ps.zip us, scope.names.lookup y.1 = some .local ∨ (scope.names.lookup y.1 = some .cell ∧ ((cellsFrom (s.heap.objs.size + 1) scope.names []).lookup y.1).isSome = true) := fun ⟨n, v⟩ hy => by
    rcases S.par n (List.of_mem_zip hy).1 with q | q
    · exact .inl q
    · exact .inr ⟨q, PySem.W.cellsFrom_some _ _ _ (.inl q)⟩
  refine codeAny_call_function hr.depth (KX _ _ lk) rfl S.co S.gen rfl (PySem.W.codeRec_of KX hcd) (hb _ _ _ _ ?_)
  refine wpAny_newFunctionEnv_cells S.kind hkind fun env he s1 x => ?_
  subst he
  refine ⟨lim.keeps x.toInCall.keep, codeAny_func ?_⟩
  obtain ⟨t, ht, hq⟩ := hbody A outer s H vs Q E (hr.deeper _) hsp
  have I : Inv (cxOf CX P w K mg base N qual scope f cdv A outer s H E) [] (start N vs) H s1 := inv_start S hr.hd e0 hl r x
  refine wpAny_mono (ht [] s1 (start N vs) H _ I hq) (fun fl s' hs => ?_) fun e s' hs => hs
  have fin : ∀ {σ' : St} {H' : Hp} {v : V} {u : Value}, Inv (cxOf CX P w K mg base N qual scope f cdv A outer s H E) [] σ' H' s' → RelV v u → Q v H' → CE outer P w H s Q u s' :=
    fun {σ' H' v u} J rv q => ⟨v, H', J.os, J.bare, J.base, J.hok, rv, q⟩
  cases fl with
  | ret u =>
    obtain ⟨v, σ', H', J, rv, q⟩ := hs
    exact fin J rv q
  | next =>
    obtain ⟨σ', H', J, q⟩ := hs
    exact fin (v := V.non) (u := Value.none) J rfl q
  | brk =>
    obtain ⟨_, _, _, q⟩ := hs
    exact False.elim q
  | cont =>
    obtain ⟨_, _, _, q⟩ := hs
    exact False.elim q
end L2

namespace L2
open PySem PySem.Spec PyProof.Rows
section
variable {X : Cx} {x : Str} {p pos : Pos} {e : Expr} {es : List Expr} {t : TA} {id T : String} {r : List V → Hp → VK → Prop}

def tCB (r : List V → Hp → VK → Prop) (t : TA) : TE := fun σ H Q => t σ H fun vs H1 => r vs H1 Q
theorem pe_callB (hc : CallR X (.builtin id) r) (hg : Gl X x) (hm : X.mg x = none) (hv : bootBuiltins x = some (.builtin id)) (ha : PA X (e :: es) t) (hn : x ≠ "__name__" := by decide) (hdb : (x == ("__debug__" : Str)) = false := by decide)
    (he : starEach (e :: es) X.env = (false, eval e X.env) :: starEach es X.env := by rfl) (hpl : (backTo pos (starEach es X.env)).any (·.1) = false := by rfl) : PE X (.Call (.Name x p) (e :: es) [] pos) (tCB r t) := by
  intro pins s σ H Q I h
  refine wpAny_Call_Name_kw (ld_blt I hg hm hv ?_ hn hdb)
  exact PyProof.Rows.callWith_builtin1 (thn (ha pos pins s σ H _ I h) fun us s1 ⟨vs, H1, I1, r1, q1⟩ => hc pins s1 σ H1 vs us Q I1 r1 q1) he hpl
theorem pe_callTy (hc : CallR X (.type T) r) (hg : Gl X x) (hm : X.mg x = none) (hv : bootBuiltins x = some (.type T)) (ha : PA X (e :: es) t) (hn : x ≠ "__name__" := by decide) (hdb : (x == ("__debug__" : Str)) = false := by decide)
    (he : starEach (e :: es) X.env = (false, eval e X.env) :: starEach es X.env := by rfl) (hpl : (backTo pos (starEach es X.env)).any (·.1) = false := by rfl) : PE X (.Call (.Name x p) (e :: es) [] pos) (tCB r t) := by
  intro pins s σ H Q I h
  refine wpAny_Call_Name_kw (ld_blt I hg hm hv ?_ hn hdb)
  exact PyProof.Rows.callWith_type1 (thn (ha pos pins s σ H _ I h) fun us s1 ⟨vs, H1, I1, r1, q1⟩ => hc pins s1 σ H1 vs us Q I1 r1 q1) he hpl
end
end L2

namespace HT
open PySem PyProof.Rows

section
open PySem.SeqAt
open PySem.AutoSeq1 (wpAny_loadPart')
open PySem.MeetsSeq PySem.MeetsSeq2 PySem.MeetsSeq3

end

section
variable {prog : Program} {w : World} {A : Around} {E : Value → Shared → Prop} {s : Shared}
def sIx (n d : Nat) : Option Int → Nat
  | none => d
  | some v => if v < 0 then (v + (n : Int)).toNat else min v.toNat n
theorem sIx_none (n d : Nat) : sIx n d none = d := rfl
theorem sIx_nat (n d k : Nat) : sIx n d (some (k : Int)) = min k n := by
  show (if (k : Int) < 0 then ((k : Int) + (n : Int)).toNat else min (k : Int).toNat n) = min k n
  rw [if_neg (by omega), Int.toNat_natCast]
end
end HT

namespace L2
open PySem PySem.Spec PyProof.Rows
abbrev TO := St → Hp → (Option Int → Hp → Prop) → Prop
def PO (X : Cx) (e : Option Expr) (t : TO) : Prop :=
  ∀ (pins : List (Addr × Obj)) (s : Shared) (σ : St) (H : Hp) (Q : Option Int → Hp → Prop), Inv X pins σ H s → t σ H Q →
    wpAny (model X.prog X.w) X.A (evalPart e X.env) (fun u s' => ∃ o H', Inv X pins σ H' s' ∧ IsPart u o ∧ Q o H') X.xe s
def tNoPart : TO := fun _ H Q => Q none H
def tPart (t : TE) : TO := fun σ H Q => t σ H fun x H1 => ∃ i, x = .int i ∧ Q (some i) H1

section
variable {X : Cx} {e : Expr} {te : TE} {lo hi : Option Expr} {tl th : TO} {pos p2 : Pos}

theorem po_none : PO X none tNoPart := by
  intro pins s σ H Q I h
  rw [evalPart_none]
  exact wpAny_pure ⟨none, H, I, .none, h⟩
theorem po_some (h : PE X e te) : PO X (some e) (tPart te) := by
  intro pins s σ H Q I hw
  rw [evalPart_some]
  refine thn (h pins s σ H _ I hw) fun u s1 ⟨x, H1, I1, r1, q1⟩ => ?_
  obtain ⟨i, rfl, q⟩ := q1
  obtain ⟨t, rfl⟩ := r1
  exact ⟨some i, H1, I1, .int i t, q⟩
def SlR (X : Cx) (r : V → Option Int → Option Int → Hp → VK → Prop) : Prop :=
  ∀ (pins : List (Addr × Obj)) (s : Shared) (σ : St) (H : Hp) (x : V) (v vl vu : Value) (lo hi : Option Int) (sl : Addr) (Q : VK), Inv X pins σ H s → RelV x v → s.heap.IsSliceOf sl vl vu .none → IsPart vl lo → IsPart vu hi → r x lo hi H Q →
    ∃ T id, typeLookup (.type T) "__getitem__" = pure (some (.builtin id)) ∧ s.TypeIs v T ∧ wpAny (model X.prog X.w) X.A (getItem v (.ref sl)) (EP X pins σ Q) X.xe s
def tSl (r : V → Option Int → Option Int → Hp → VK → Prop) (te : TE) (tl th : TO) : TE := fun σ H Q => te σ H fun x H1 => tl σ H1 fun l H2 => th σ H2 fun u H3 => r x l u H3 Q
theorem pe_slice {r : V → Option Int → Option Int → Hp → VK → Prop} (hr : SlR X r) (he : PE X e te) (hl : PO X lo tl) (hu : PO X hi th) : PE X (.Subscript e (.Slice lo hi none p2) pos) (tSl r te tl th) := by
  intro pins s σ H Q I h
  refine Subscript_ (thn (he pins s σ H _ I h) fun v s1 ⟨x, H1, I1, r1, q1⟩ => ?_)
  refine wpAny_Slice (thn (hl pins s1 σ H1 _ I1 q1) fun vl s2 ⟨l, H2, I2, pl, q2⟩ => thn (hu pins s2 σ H2 _ I2 q2) fun vu s3 ⟨u, H3, I3, pu, q3⟩ => ?_)
  rw [evalPart_none]
  refine wpAny_pure ?_
  have I4 : Inv X pins σ H3 { s3 with heap := s3.heap.push { cls := .type "slice", data := .fields #[vl, vu, .none] } } := I3.kept (t' := s3.toks) fun b ob q => Heap.get?_push_of_some _ q
  obtain ⟨T, id, hT, ht, hg⟩ := hr pins { s3 with heap := s3.heap.push { cls := .type "slice", data := .fields #[vl, vu, .none] } } σ H3 x v vl vu l u s3.heap.objs.size Q I4 r1 (Heap.IsSliceOf.new ..) pl pu q3
  show wpAny (model X.prog X.w) X.A (subscriptTail e (.Slice lo hi none p2) v (.ref s3.heap.objs.size)) (EP X pins σ Q) X.xe { s3 with heap := s3.heap.push { cls := .type "slice", data := .fields #[vl, vu, .none] } }
  exact tail_any (ops := [.ref s3.heap.objs.size, v]) ht hT hg (by with_unfolding_all rfl)
def cutV (xs : List V) (lo hi : Option Int) : List V := (xs.drop (HT.sIx xs.length 0 lo)).take (HT.sIx xs.length xs.length hi - HT.sIx xs.length 0 lo)
theorem cutV_length (xs : List V) (lo hi : Option Int) : (cutV xs lo hi).length ≤ xs.length := by
  unfold cutV
  rw [List.length_take, List.length_drop]
  omega
end
end L2

namespace L2
open PySem PySem.Spec PyProof.Rows
def ixN (n : Nat) (i : Int) : Option Nat := if 0 ≤ i then (if i < n then some i.toNat else none) else if -(n : Int) ≤ i then some (i + n).toNat else none
def atI {α : Type} (xs : List α) (i : Int) : Option α := (ixN xs.length i).bind fun j => xs[j]?
theorem ixN_seq {n : Nat} {i : Int} {j : Nat} (h : ixN n i = some j) : seqIndex? i n = some j ∧ j < n ∧ -(n : Int) ≤ i ∧ i < n := by
  unfold ixN at h
  by_cases h0 : 0 ≤ i
  · rw [if_pos h0] at h
    by_cases h1 : i < n
    · rw [if_pos h1] at h
      have e : i.toNat = j := Option.some.inj h
      exact ⟨by rw [seqIndex_of h0 h1, e], by omega, by omega, h1⟩
    · rw [if_neg h1] at h; cases h
  · rw [if_neg h0] at h
    by_cases h1 : -(n : Int) ≤ i
    · rw [if_pos h1] at h
      have e : (i + n).toNat = j := Option.some.inj h
      exact ⟨by rw [seqIndex_neg (by omega) h1, e], by omega, h1, by omega⟩
    · rw [if_neg h1] at h; cases h
theorem atI_get {α : Type} {xs : List α} {i : Int} {v : α} (h : atI xs i = some v) : ∃ j, seqIndex? i xs.length = some j ∧ xs[j]? = some v ∧ j < xs.length ∧ -(xs.length : Int) ≤ i ∧ i < xs.length := by
  unfold atI at h
  cases e : ixN xs.length i with
  | none => rw [e] at h; cases h
  | some j =>
    rw [e] at h
    obtain ⟨h1, h2, h3, h4⟩ := ixN_seq e
    exact ⟨j, h1, h, h2, h3, h4⟩
theorem atI_nat {α : Type} {xs : List α} {j : Nat} {v : α} (h : xs[j]? = some v) : atI xs (j : Int) = some v := by
  have hj : j < xs.length := (List.getElem?_eq_some_iff.mp h).1
  have e : ixN xs.length (j : Int) = some j := by
    unfold ixN
    rw [if_pos (by omega), if_pos (by omega)]; simp
  unfold atI; rw [e]; exact h
def PlainIx (b : Expr) : Prop := ∀ o i, subscripted b false o i = operate [o, i] (getItem o i)
def IxR (X : Cx) (r : R2) : Prop :=
  ∀ (value slice : Expr) (pins : List (Addr × Obj)) (s : Shared) (σ : St) (H : Hp) (x y : V) (v u : Value) (Q : VK), Inv X pins σ H s → RelV x v → RelV y u → r x y H Q →
    subscripted slice false v u = operate [v, u] (getItem v u) → wpAny (model X.prog X.w) X.A (subscriptTail value slice v u) (EP X pins σ Q) X.xe s
def MtR (X : Cx) (id : String) (r : V → List V → Hp → VK → Prop) : Prop :=
  ∀ (pins : List (Addr × Obj)) (s : Shared) (σ : St) (H : Hp) (x : V) (xs : List V) (v : Value) (us : List Value) (Q : VK), Inv X pins σ H s → RelV x v → Vals xs us → r x xs H Q →
    wpAny (model X.prog X.w) X.A (call (.builtin id) (v :: us)) (EP X pins σ Q) X.xe s
section
variable {X : Cx} {a b : Expr} {ta tb : TE} {pos : Pos}
theorem pe_ix {r : R2} (hr : IxR X r) (ha : PE X a ta) (hb : PE X b tb) (hs : PlainIx b) : PE X (.Subscript a b pos) (tOp r ta tb) := by
  intro pins s σ H Q I h
  exact Subscript_ (binT ha hb I h fun v u s2 x y H2 I2 rx ry q => hr a b pins s2 σ H2 x y v u Q I2 rx ry q (hs _ _))

def rIxL (K : PySem.W.Frag) : R2 := fun x y H Q => ∃ p xs i v, x = .ref p ∧ y = .int i ∧ SqL K H p xs ∧ atI xs i = some v ∧ Q v H
theorem ix_list : IxR X (rIxL X.K) := by
  intro value slice pins s σ H x y v u Q I rx ry h hs
  obtain ⟨p, xs, i, z, rfl, rfl, hq, he, q⟩ := h
  cases rx
  obtain ⟨t, rfl⟩ := ry
  obtain ⟨its, r, pl, hz⟩ := I.list hq
  obtain ⟨j, h1, h2, h3, h4, h5⟩ := atI_get he
  obtain ⟨w, ew, rw'⟩ := r.get h2
  have hl := r.length
  have hn := line63
  have fin : EP X pins σ Q w s := ⟨z, H, I, rw', q⟩
  by_cases h0 : 0 ≤ i
  · have hj : i.toNat = j := by
      rw [seqIndex_of h0 h5] at h1
      exact Option.some.inj h1
    exact item_listR pl.isList h0 (by omega) (by rw [hj]; simpa using ew) fin hs
  · have hj : (i + (its.toArray.size : Int)).toNat = j := by
      rw [seqIndex_neg (by omega) h4] at h1
      rw [List.size_toArray, ← hl]
      exact Option.some.inj h1
    exact subscriptTail_builtinR (x := w) pl.isList.typeIs slot_list_getitem.lookup
      (wpAny_getItem_list_neg (Q := fun r s' => r = w ∧ EP X pins σ Q r s') pl.isList (by omega) (by rw [List.size_toArray] <;> omega) (by omega) (by rw [hj]; simpa using ew) ⟨rfl, fin⟩) hs
theorem mapSeq_set (its : List Value) (n j : Nat) (u : Value) : Obj.mapSeq (·.setIfInBounds j u) { cls := .type "list", data := .seq its.toArray n } = { cls := .type "list", data := .seq (its.set j u).toArray n } := by
  simp [Obj.mapSeq]
theorem Inv.lst {pins : List (Addr × Obj)} {σ : St} {H : Hp} {s : Shared} {p : Addr} {xs : List V} (I : Inv X pins σ H s) (h : H p = some (.lst xs)) :
    ∃ (its : List Value) (n : Nat), Vals xs its ∧ s.heap.get? p = some { cls := .type "list", data := .seq its.toArray n } ∧ xs.length ≤ sizeLine := by
  obtain ⟨z, its, n, r, e⟩ := I.hok p _ h
  exact ⟨its, n, r, e, z⟩
theorem Inv.lstUpd {pins : List (Addr × Obj)} {σ : St} {H : Hp} {s : Shared} {p : Addr} {xs ys : List V} {its its' : List Value} {n n' : Nat} {f : Obj → Obj} (I : Inv X pins σ H s) (h : H p = some (.lst xs))
    (ho : s.heap.get? p = some { cls := .type "list", data := .seq its.toArray n }) (hf : f { cls := .type "list", data := .seq its.toArray n } = { cls := .type "list", data := .seq its'.toArray n' }) (r : Vals ys its') (hz : ys.length ≤ sizeLine) (t : Nat) :
    Inv X pins σ (upd H p (.lst ys)) { s with heap := s.heap.update p f, toks := t } := by
  have e : (s.heap.update p f).get? p = some { cls := .type "list", data := .seq its'.toArray n' } := by
    rw [Heap.get?_update_self f ho (by rw [hf] <;> rfl), hf]
  refine I.write (x := p) (e := p) (by rw [h]; trivial) (.inl rfl) (fun b u hb q => (Heap.get?_update_other _ _ (Ne.symm hb)).trans q) ⟨_, e⟩ ?_
  exact ⟨hz, its', n', r, e⟩
def rSetL : V → V → V → Hp → (Hp → Prop) → Prop := fun o i v H Q => ∃ p xs k j, o = .ref p ∧ i = .int k ∧ H p = some (.lst xs) ∧ ixN xs.length k = some j ∧ Q (upd H p (.lst (xs.set j v)))
theorem set_list : PSet X rSetL := by
  intro pins s σ H o i v ov iv u Q I ro ri rv h
  obtain ⟨p, xs, k, j, rfl, rfl, hp, hj, q⟩ := h
  cases ro
  obtain ⟨t, rfl⟩ := ri
  obtain ⟨its, n, r, ho, hz⟩ := I.lst hp
  obtain ⟨h1, h2, h3, h4⟩ := ixN_seq hj
  have hl := r.length
  have hn := line63
  have I' : Inv X pins σ (upd H p (.lst (xs.set j v))) { s with heap := s.heap.update p (Obj.mapSeq (·.setIfInBounds j u)) } :=
    I.lstUpd hp ho (mapSeq_set its n j u) (r.set rv j) (by rw [List.length_set]; exact hz) s.toks
  by_cases h0 : 0 ≤ k
  · have hk : k.toNat = j := by
      rw [seqIndex_of h0 h4] at h1
      exact Option.some.inj h1
    exact PySem.W.ki_setAt ho h0 (by omega) (by rw [List.size_toArray, ← hl]; exact h4) (by rw [hk]; exact ⟨_, I', q⟩)
  · have hk : (k + (its.toArray.size : Int)).toNat = j := by
      rw [seqIndex_neg (by omega) h3] at h1
      rw [List.size_toArray, ← hl]
      exact Option.some.inj h1
    exact PySem.W.ki_setBack ho (by omega) (by rw [List.size_toArray, ← hl]; exact h3) (by omega) (by rw [hk]; exact ⟨_, I', q⟩)
theorem slice_bounds (lo hi : Option Int) (n : Nat) : (sliceBounds lo hi none n).1 = ((HT.sIx n 0 lo : Nat) : Int) ∧ (sliceBounds lo hi none n).2.1 = ((HT.sIx n n hi : Nat) : Int) ∧ (sliceBounds lo hi none n).2.2 = 1 := by
  refine ⟨?_, ?_, rfl⟩
  · cases lo with
    | none => simp [sliceBounds, HT.sIx]
    | some i =>
      simp only [sliceBounds, HT.sIx, Option.getD_none, show (1 : Int) > 0 by decide, if_true]
      by_cases h : i < 0
      · simp only [h, if_true] <;> omega
      · simp only [h, if_false] <;> omega
  · cases hi with
    | none => simp [sliceBounds, HT.sIx]
    | some i =>
      simp only [sliceBounds, HT.sIx, Option.getD_none, show (1 : Int) > 0 by decide, if_true]
      by_cases h : i < 0
      · simp only [h, if_true] <;> omega
      · simp only [h, if_false] <;> omega
theorem slicePick_cut (its : List Value) (lo hi : Option Int) : slicePick its.toArray lo hi none = ((its.drop (HT.sIx its.length 0 lo)).take (HT.sIx its.length its.length hi - HT.sIx its.length 0 lo)).toArray := by
  obtain ⟨h1, h2, h3⟩ := slice_bounds lo hi its.toArray.size
  unfold slicePick
  rw [h1, h2, h3]
  simp only [sliceRange_one, pick_run, List.size_toArray] <;> rfl
def rSlL (K : PySem.W.Frag) : V → Option Int → Option Int → Hp → VK → Prop := fun x lo hi H Q => ∃ a xs, x = .ref a ∧ SqL K H a xs ∧ ∀ p, H p = none → Q (.ref p) (upd H p (.lst (cutV xs lo hi)))
theorem sl_list : SlR X (rSlL X.K) := by
  intro pins s σ H x v vl vu lo hi sl Q I rx hs pl pu h
  obtain ⟨a, xs, rfl, hx, q⟩ := h
  cases rx
  obtain ⟨its, r, ht, hz⟩ := I.list hx
  have hlen := r.length
  refine ⟨"list", _, slot_list_getitem.lookup, ht.isList.typeIs, ?_⟩
  refine wpAny_getItem_list_slice ht.isList hs pl pu .none (by simp) ?_ (by rw [List.size_toArray] <;> omega)
  rw [slicePick_cut, ← hlen]
  refine ⟨.ref s.heap.objs.size, _, I.laid (t' := s.toks) (o := .lst (cutV xs lo hi)) (fun b ob q => Heap.get?_push_of_some _ q) (Nat.le_refl _) ?_, rfl, q _ (I.hok.fresh (Nat.le_refl _))⟩
  exact ⟨Nat.le_trans (cutV_length xs lo hi) hz, _, 0, (r.drop (HT.sIx xs.length 0 lo)).take (HT.sIx xs.length xs.length hi - HT.sIx xs.length 0 lo), Heap.get?_push_size _ rfl⟩
def flatV : V → Bool
  | .non => true
  | .bl _ => true
  | .int _ => true
  | .str _ => true
  | _ => false
def eqV : V → V → Bool
  | .non, .non => true
  | .bl a, .bl b => a == b
  | .bl a, .int b => (if a then 1 else 0) == b
  | .int a, .bl b => a == (if b then 1 else 0)
  | .int a, .int b => a == b
  | .str a, .str b => a == b
  | _, _ => false
theorem eqAt_V {A : Around} {s : Shared} {y x : V} {u v : Value} (ry : RelV y u) (rx : RelV x v) (fy : flatV y = true) (fx : flatV x = true) : SeqAt.EqAt A s u v (eqV y x) := by
  cases y with
  | non =>
    cases ry
    cases x with
    | non => cases rx; exact SeqAt.EqAt.same _
    | bl b => cases rx; exact SeqAt.EqAt.none_bool b
    | int b => obtain ⟨t, rfl⟩ := rx; exact SeqAt.EqAt.none_int b t
    | str b => obtain ⟨t, rfl⟩ := rx; exact SeqAt.EqAt.none_str b t
    | _ => exact absurd (show false = true from fx) Bool.false_ne_true
  | bl a =>
    cases ry
    cases x with
    | non => cases rx; exact SeqAt.EqAt.bool_none a
    | bl b => cases rx; exact SeqAt.EqAt.bool_bool a b
    | int b => obtain ⟨t, rfl⟩ := rx; exact SeqAt.EqAt.bool_int a b t
    | str b => obtain ⟨t, rfl⟩ := rx; exact SeqAt.EqAt.bool_str a b t
    | _ => exact absurd (show false = true from fx) Bool.false_ne_true
  | int a =>
    obtain ⟨t', rfl⟩ := ry
    cases x with
    | non => cases rx; exact SeqAt.EqAt.int_none a t'
    | bl b => cases rx; exact SeqAt.EqAt.int_bool a t' b
    | int b => obtain ⟨t, rfl⟩ := rx; exact SeqAt.EqAt.int_int a t' b t
    | str b => obtain ⟨t, rfl⟩ := rx; exact SeqAt.EqAt.int_str a t' b t
    | _ => exact absurd (show false = true from fx) Bool.false_ne_true
  | str a =>
    obtain ⟨t', rfl⟩ := ry
    cases x with
    | non => cases rx; exact SeqAt.EqAt.str_none a t'
    | bl b => cases rx; exact SeqAt.EqAt.str_bool a t' b
    | int b => obtain ⟨t, rfl⟩ := rx; exact SeqAt.EqAt.str_int a t' b t
    | str b => obtain ⟨t, rfl⟩ := rx; exact SeqAt.EqAt.str_str a t' b t
    | _ => exact absurd (show false = true from fx) Bool.false_ne_true
  | _ => exact absurd (show false = true from fy) Bool.false_ne_true
def eqU (x : V) (u : Value) : Bool := match u with
  | .none => eqV .non x
  | .bool b => eqV (.bl b) x
  | .int i _ => eqV (.int i) x
  | .str z _ => eqV (.str z) x
  | _ => false
theorem eqU_of {x y : V} {u : Value} (r : RelV y u) (f : flatV y = true) : eqU x u = eqV y x := by
  cases y with
  | non => cases r; rfl
  | bl b => cases r; rfl
  | int i => obtain ⟨t, rfl⟩ := r; rfl
  | str z => obtain ⟨t, rfl⟩ := r; rfl
  | _ => exact absurd (show false = true from f) Bool.false_ne_true
theorem any_eqU {x : V} : ∀ {xs : List V} {us : List Value}, Vals xs us → xs.all flatV = true → us.any (eqU x) = xs.any fun y => eqV y x
  | _, _, .nil, _ => rfl
  | y :: xs, u :: us, .cons r t, f => by
    rw [List.all_cons, Bool.and_eq_true] at f
    rw [List.any_cons, List.any_cons, eqU_of r f.1, any_eqU t f.2]
theorem mem_eqAt {A : Around} {s : Shared} {x : V} {v : Value} (rx : RelV x v) (fx : flatV x = true) : ∀ {xs : List V} {us : List Value}, Vals xs us → xs.all flatV = true → ∀ u ∈ us, SeqAt.EqAt A s u v (eqU x u)
  | _, _, .nil, _ => fun u hu => by cases hu
  | y :: xs, u :: us, .cons r t, f => fun u' hu => by
    rw [List.all_cons, Bool.and_eq_true] at f
    rcases List.mem_cons.mp hu with rfl | hu
    · rw [eqU_of r f.1]; exact eqAt_V r rx f.1 fx
    · exact mem_eqAt rx fx t f.2 u' hu
def inV (x : V) (xs : List V) : Bool := xs.any fun y => eqV y x
def rIn (K : PySem.W.Frag) (neg : Bool) : R2 := fun x y H Q => ∃ p xs, y = .ref p ∧ (SqL K H p xs ∨ SqT K H p xs) ∧ flatV x = true ∧ xs.all flatV = true ∧ Q (.bl (if neg then !inV x xs else inV x xs)) H
theorem op_in_seq : OpR X (compareOp .In) (rIn X.K false) := by
  intro pins s σ H x y v u Q I rx ry h
  obtain ⟨p, xs, rfl, hq, fx, fs, q⟩ := h
  cases ry
  rcases hq with hq | hq
  · obtain ⟨its, r, pl, hz⟩ := I.list hq
    refine SeqAt.in_listAt (eqU x) pl.isList (fun w hw => mem_eqAt rx fx r fs w (by simpa using hw)) ⟨.bl _, H, I, rfl, ?_⟩
    rw [show its.toArray.any (eqU x) = its.any (eqU x) by simp, any_eqU r fs]
    exact q
  · obtain ⟨its, r, pl, hz⟩ := I.tuple hq
    refine SeqAt.in_tupleAt (eqU x) pl (fun w hw => mem_eqAt rx fx r fs w (by simpa using hw)) ⟨.bl _, H, I, rfl, ?_⟩
    rw [show its.toArray.any (eqU x) = its.any (eqU x) by simp, any_eqU r fs]
    exact q
theorem call_len_seq : CallR X (.builtin "len") (fun xs H Q => ∃ p ys, xs = [.ref p] ∧ (SqL X.K H p ys ∨ SqT X.K H p ys) ∧ Q (.int ys.length) H) := by
  intro pins s σ H xs us Q I r h
  obtain ⟨p, ys, rfl, hq, q⟩ := h
  obtain ⟨u, rfl, rx⟩ := vals1 r
  cases rx
  have hn := line63
  rcases hq with hq | hq
  · obtain ⟨its, r', pl, hz⟩ := I.list hq
    have hlen := r'.length
    exact Calls.call_len_list pl.isList (by simp only [List.size_toArray] <;> omega) ⟨.int ys.length, H, I.tok _, ⟨s.toks + 1, by rw [List.size_toArray, hlen]⟩, q⟩
  · obtain ⟨its, r', pl, hz⟩ := I.tuple hq
    have hlen := r'.length
    exact len_tuple pl (by simp only [List.size_toArray] <;> omega) ⟨.int ys.length, H, I.tok _, ⟨s.toks + 1, by rw [List.size_toArray, hlen]⟩, q⟩
theorem call_len_str : CallR X (.builtin "len") (fun xs H Q => ∃ z, xs = [.str z] ∧ z.length ≤ sizeLine ∧ Q (.int z.length) H) := by
  intro pins s σ H xs us Q I r h
  obtain ⟨z, rfl, hz, q⟩ := h
  obtain ⟨u, rfl, t, rfl⟩ := vals1 r
  have hn := line63
  exact len_str (by omega) ⟨.int z.length, H, I.tok _, ⟨_, rfl⟩, q⟩
theorem call_tuple_of : CallR X (.type "tuple") (fun xs H Q => ∃ p ys, xs = [.ref p] ∧ ((SqL X.K H p ys ∧ ∀ l, H l = none → Q (.ref l) (upd H l (.tup ys))) ∨ (SqT X.K H p ys ∧ Q (.ref p) H))) := by
  intro pins s σ H xs us Q I r h
  obtain ⟨p, ys, rfl, h⟩ := h
  obtain ⟨u, rfl, rx⟩ := vals1 r
  cases rx
  rcases h with ⟨hq, q⟩ | ⟨hq, q⟩
  · obtain ⟨its, r', pl, hz⟩ := I.list hq
    have hlen := r'.length
    refine call_tuple_list pl.isList (fun h' kp => ?_) (by simp only [List.size_toArray] <;> omega)
    have I1 : Inv X pins σ H { s with heap := h' } := I.kept (t' := s.toks) kp
    have I2 : Inv X pins σ (upd H h'.objs.size (.tup ys)) { s with heap := h'.push { cls := .type "tuple", data := .seq its.toArray } } :=
      I1.laid (t' := s.toks) (fun b o e => Heap.get?_push_of_some _ e) (Nat.le_refl _) (show ObjOk X.prog X.w _ _ _ (.tup ys) from ⟨hz, its, r', TupX.new _ _⟩)
    exact ⟨.ref h'.objs.size, _, I2, rfl, q _ (I1.hok.fresh (Nat.le_refl _))⟩
  · obtain ⟨its, r', pl, hz⟩ := I.tuple hq
    exact call_tuple_same pl ⟨.ref p, H, I, rfl, q⟩
def tyV (K : PySem.W.Frag) (T : String) (x : V) (H : Hp) : Prop := match x with
  | .str _ => T = "str"
  | .int _ => T = "int"
  | .ref p => (T = "list" ∧ ∃ xs, SqL K H p xs) ∨ (T = "tuple" ∧ ∃ o, K.lookup p = some o ∧ o.cls = .type "tuple" ∧ o.dict = none) ∨
      (T = "dict" ∧ ((∃ kvs, H p = some (.dK kvs)) ∨ ∃ kvs, H p = some (.dT kvs))) ∨ (T = "set" ∧ ∃ S n, H p = some (.set S n))
  | _ => False
theorem tyV_is {pins : List (Addr × Obj)} {σ : St} {H : Hp} {s : Shared} {T : String} {x : V} {v : Value} (I : Inv X pins σ H s) (r : RelV x v) (ty : tyV X.K T x H) :
    s.TypeIs v T ∧ ∀ a, v = .ref a → ∃ ob, s.heap.get? a = some ob ∧ ob.dict = none := by
  cases x with
  | str z =>
    obtain ⟨t, rfl⟩ := r
    cases (show T = "str" from ty)
    exact ⟨typeIs_str s z t, fun _ e => nomatch e⟩
  | int i =>
    obtain ⟨t, rfl⟩ := r
    cases (show T = "int" from ty)
    exact ⟨typeIs_int s i t, fun _ e => nomatch e⟩
  | ref p =>
    cases r
    rcases ty with ⟨rfl, xs, hq⟩ | ⟨rfl, o, hk, hc, hd⟩ | ⟨rfl, hk⟩ | ⟨rfl, S, n, hk⟩
    · obtain ⟨its, _, pl, _⟩ := I.list hq
      refine ⟨pl.isList.typeIs, fun a e => ?_⟩
      cases e
      obtain ⟨o, n, e, c, hd, _⟩ := pl
      exact ⟨o, e, hd⟩
    · refine ⟨⟨o, I.kIn p o hk, hc⟩, fun a e => ?_⟩
      cases e
      exact ⟨o, I.kIn _ o hk, hd⟩
    · have z : ∃ o, s.heap.get? p = some o ∧ o.ExactDict := by
        rcases hk with ⟨kvs, hk⟩ | ⟨kvs, hk⟩
        · obtain ⟨_, _, _, _, o, _, _, e, ex, _⟩ := I.hok p _ hk
          exact ⟨o, e, ex⟩
        · obtain ⟨_, _, _, _, o, _, _, e, ex, _⟩ := I.hok p _ hk
          exact ⟨o, e, ex⟩
      obtain ⟨o, e, ex⟩ := z
      refine ⟨⟨o, e, ex.1⟩, fun a e2 => ?_⟩
      cases e2
      exact ⟨o, e, ex.2.1⟩
    · obtain ⟨o, _, _, _, e, ex, _⟩ := I.hok p _ hk
      refine ⟨⟨o, e, ex.1⟩, fun a e2 => ?_⟩
      cases e2
      exact ⟨o, e, ex.2.1⟩
  | _ => exact False.elim ty
def tBM (K : PySem.W.Frag) (T : String) (r : V → List V → Hp → VK → Prop) (to : TE) (t : TA) : TE := fun σ H Q => to σ H fun x H1 => tyV K T x H1 ∧ t σ H1 fun xs H2 => r x xs H2 Q
variable {o e : Expr} {es : List Expr} {to : TE} {t : TA} {name : Str} {apos cpos : Pos} {T id : String} {r : V → List V → Hp → VK → Prop}
theorem pe_bm (pa : PlainAttrs T) (slot : Slot T name id) (hty : typeOf (.builtin id) = pure (.type "method_descriptor")) (hm : MtR X id r) (ho : PE X o to) (ha : PA X (e :: es) t)
    (hbase : attributeBase o name X.env (eval o X.env) = eval o X.env := by rfl)
    (hfew : ((backTo cpos (starEach (e :: es) X.env)).all (fun x => !x.1) && (backToKw cpos (keywordEach [] X.env)).all (fun x => x.1.isSome)
      && decide ((e :: es).length + ([] : List Keyword).length + (if ([] : List Keyword).isEmpty then 0 else 1) < 30)) = true := by rfl)
    (hline : (apos.endLine == cpos.line) = true := by rfl) (hs : starEach (e :: es) X.env = (false, eval e X.env) :: starEach es X.env := by rfl) (hplain : (backTo cpos (starEach es X.env)).any (·.1) = false := by rfl) :
    PE X (.Call (.Attribute o name apos) (e :: es) [] cpos) (tBM X.K T r to t) := by
  intro pins s σ H Q I h
  refine wpAny_Call_method_late hbase hfew hline rfl (thn (ho pins s σ H _ I h) fun v s1 ⟨x, H1, I1, r1, ty, q1⟩ => ?_)
  obtain ⟨h1, h2⟩ := tyV_is I1 r1 ty
  refine ⟨T, id, pa, slot, hty, h1, h2, ?_⟩
  have hA := ha cpos pins s1 σ H1 _ I1 q1
  rw [hs] at hA ⊢
  refine Calls.callWith_builtin (by show (false || (backTo cpos (starEach es X.env)).any (·.1)) = false; rw [hplain] <;> rfl) (Calls.evalArgs_plain ?_)
  exact thn hA fun us s2 ⟨vs, H2, I2, r2, q2⟩ => hm pins s2 σ H2 x vs v us Q I2 r1 r2 q2
/- xs.append(e), list.index on a module's tuple .. are MtR facts of 06m -/
end
end L2

namespace L2
open PySem PySem.Spec PyProof.Rows

def MtM (X : Cx) (id : String) (r : V → List V → Hp → VK → Prop) : Prop :=
  ∀ (pins : List (Addr × Obj)) (s : Shared) (σ : St) (H : Hp) (x : V) (xs : List V) (v : Value) (us : List Value) (Q : VK), Inv X pins σ H s → RelV x v → Vals xs us → r x xs H Q →
    wpAny (model X.prog X.w) X.A (call (.builtin id) (v :: us)) (EP X pins σ Q) X.xe s
theorem Vals.one : ∀ {x : V} {us : List Value}, Vals [x] us → ∃ u, us = [u] ∧ RelV x u
  | _, _, .cons r .nil => ⟨_, rfl, r⟩
theorem Vals.two : ∀ {x y : V} {us : List Value}, Vals [x, y] us → ∃ u v, us = [u, v] ∧ RelV x u ∧ RelV y v
  | _, _, _, .cons r (.cons q .nil) => ⟨_, _, rfl, r, q⟩
section
variable {X : Cx} {pins : List (Addr × Obj)} {σ : St} {H : Hp} {s : Shared} {l b : Addr} {xs ys zs : List V}
theorem Inv.lset {its its' : List Value} {n : Nat} {f : Array Value → Array Value} {t' : Nat} (I : Inv X pins σ H s) (hH : H l = some (.lst xs))
    (e : s.heap.get? l = some { cls := .type "list", data := .seq its.toArray n }) (hf : f its.toArray = its'.toArray) (hv : Vals ys its') (hz : ys.length ≤ sizeLine) :
    Inv X pins σ (upd H l (.lst ys)) { s with heap := s.heap.update l (Obj.mapSeq f), toks := t' } := by
  have q := PySem.IsL.update e f
  rw [hf] at q
  refine I.write (x := l) (e := l) (by rw [hH]; exact trivial) (.inl rfl) (fun b' u hb hu => (Heap.get?_update_other s.heap (Obj.mapSeq f) (Ne.symm hb)).trans hu) ⟨_, q⟩ ?_
  exact ⟨hz, its', _, hv, q⟩
theorem Inv.lnew {its : List Value} {t' : Nat} (I : Inv X pins σ H s) (hv : Vals ys its) (hz : ys.length ≤ sizeLine) :
    Inv X pins σ (upd H s.heap.objs.size (.lst ys)) { s with heap := s.heap.push { cls := .type "list", data := .seq its.toArray }, toks := t' } :=
  I.laid (fun _ _ q => Heap.get?_push_of_some _ q) (Nat.le_refl _) ⟨hz, its, 0, hv, Heap.get?_push_size _ rfl⟩
theorem Inv.fresh (I : Inv X pins σ H s) : H s.heap.objs.size = none := I.hok.fresh (Nat.le_refl _)
theorem Inv.lstM (I : Inv X pins σ H s) (hH : H l = some (.lst xs)) : xs.length ≤ sizeLine ∧ ∃ (its : List Value) (n : Nat), Vals xs its ∧ xs.length = its.length ∧ s.heap.get? l = some { cls := .type "list", data := .seq its.toArray n } := by
  obtain ⟨z, its, n, r, e⟩ := I.hok l _ hH
  exact ⟨z, its, n, r, r.length, e⟩

end

section
variable {X : Cx}
def rAppend : V → List V → Hp → VK → Prop := fun x vs H Q => ∃ l xs y, x = .ref l ∧ vs = [y] ∧ H l = some (.lst xs) ∧ xs.length < sizeLine ∧ Q .non (upd H l (.lst (xs ++ [y])))
theorem mt_append : MtM X "list.append" rAppend := by
  intro pins s σ H x vs v us Q I rx rv h
  obtain ⟨l, xs, y, rfl, rfl, hH, hz, q⟩ := h
  cases rx
  obtain ⟨u, rfl, ru⟩ := rv.one
  obtain ⟨z, its, n, r, hl, e⟩ := I.lstM hH
  refine call_meets F.slot_list_append ⟨_, e, rfl⟩ F.entry_list_append (F.args_list_append_2 _ _) (PySem.list_append l its.toArray n u (by rw [List.size_toArray]; omega)) ⟨e, ?_⟩
  refine ⟨.non, _, I.lset (its' := its ++ [u]) hH e (by simp) (r.append (.cons ru .nil)) ?_, rfl, q⟩
  rw [List.length_append, List.length_singleton]
  omega
def rCat : R2 := fun x y H Q => ∃ l b xs zs, x = .ref l ∧ y = .ref b ∧ H l = some (.lst xs) ∧ H b = some (.lst zs) ∧ xs.length + zs.length ≤ sizeLine ∧ ∀ p, H p = none → Q (.ref p) (upd H p (.lst (xs ++ zs)))
theorem op_cat : OpR X (binaryOp .Add) rCat := by
  intro pins s σ H x y v u Q I rx ry h
  obtain ⟨l, b, xs, zs, rfl, rfl, hH, hB, hz, q⟩ := h
  cases rx
  cases ry
  obtain ⟨z, its, n, r, hl, e⟩ := I.lstM hH
  obtain ⟨z2, its2, n2, r2, hl2, e2⟩ := I.lstM hB
  refine PySem.P.add_list e e2 ?_ (by rw [List.size_toArray, List.size_toArray]; omega)
  have ea : its.toArray ++ its2.toArray = (its ++ its2).toArray := by simp
  rw [ea]
  exact ⟨.ref _, _, I.lnew (t' := s.toks) (r.append r2) (by rw [List.length_append]; omega), rfl, q _ I.fresh⟩
end
section
variable {prog : Program} {w : World} {A : Around} {E : Value → Shared → Prop} {s : Shared}
end

section
variable {X : Cx}
end
end L2

namespace Att
open PySem PySem.W PySem.Calls PyProof.Rows
theorem ints_of_wellAll {P : Params} {h : Heap} : ∀ (ns : List Int) (vs : List Value), WellAll P h vs (ns.map WData.int) → IntsAre vs ns := by
  intro ns
  induction ns with
  | nil =>
    intro vs w
    rw [List.map_nil] at w
    cases w
    exact .nil
  | cons n ns ih =>
    intro vs w
    rw [List.map_cons] at w
    cases w with
    | cons a b =>
      cases a
      exact .cons _ _ (ih _ b)

theorem script_of {l : OpenLaw} {n : Nat} (hn : l.most = some n) {P : Params} {h : Heap} {args : List WData} {vals : List Value}
    (hpre : l.row.toRowW.claim.pre args = true) (hwl : WellAll P h vals args) :
    ∃ a vs ns, vals = [Value.ref a] ∧ args = [WData.list (ns.map WData.int)] ∧ h.get? a = some { cls := .type "list", data := .seq vs.toArray } ∧ IntsAre vs ns ∧ ns.length ≤ n := by
  have hsh : WShape.hasAll [] args [.list .int] = true := (pre_splitW hpre).1
  have hc : l.pre.holds [] { args := args } = true := (pre_splitW hpre).2
  obtain ⟨d, r, rfl, h1, h2⟩ := hasAllW_cons hsh
  obtain rfl := hasAllW_nil h2
  obtain ⟨xs, rfl, h3⟩ := hasW_list h1
  obtain ⟨ns, rfl⟩ := items_int h3
  have hlen : ns.length ≤ n := by
    unfold OpenLaw.pre at hc
    have h4 : (WTm.not (.lt (.lit (.int (n : Int))) (.len (.arg 0)))).holds [] { args := [.list (ns.map .int)] } = true := by
      have h4 := (holds_andW hc).1
      rw [hn] at h4
      exact h4
    have h5 := condW_of h4 (w_not (w_lt w_lit (w_len_list (w_arg rfl))))
    rw [List.length_map] at h5
    refine Nat.le_of_not_lt fun q => ?_
    have q' : (n : Int) < ((ns.length : Nat) : Int) := by omega
    first
      | (rw [decide_eq_true q'] at h5; exact absurd h5 (by decide))
      | (simp at h5; omega)
  cases hwl with
  | cons w1 w2 =>
    cases w2
    cases w1 with
    | list ho hall => exact ⟨_, _, ns, rfl, rfl, ho, ints_of_wellAll ns _ hall, hlen⟩

theorem post_true (l : OpenLaw) (args : List WData) : l.row.toRowW.claim.post args (.bool true) args = true :=
  postW_of (r := l.row.toRowW) (X := (true == true))
    (show WShape.has [] (.bool true) .bool = true by first | rfl | decide | simp [WShape.has, WShape.arms, WShape.armsAll])
    (show (WTm.eq .res (.lit (.bool true))).value [] { args := args, res := some (.bool true), after := args } = some (.bool (true == true)) from w_eq_bool (w_res rfl) w_lit) rfl
theorem attach_call {l : OpenLaw} {n : Nat} {q : Program} {loose : List Str} {XP : (Str → Option Value) → Heap → Prop} {YP : World → Heap → Prop} {d : DefRec}
    (hn : l.most = some n) (hdf : d.params.defaults = [])
    (call : ∀ (w : World) (s₀ s₁ : Shared) (mg mb : Str → Option Value) (fa : Addr) (o : Obj) (pm cd doc : Value) (a : Addr) (vs : List Value) (ns : List Int),
      Ground q loose [] XP w s₀ mg mb s₁.heap → YP w s₁.heap →
      s₁.heap.get? fa = some o → o.data = .func (docDef d.name d.params d.body d.scope pm cd doc) → s₁.heap.CodeRec cd d.name → mg d.name = some (.ref fa) →
      s₁.heap.get? a = some { cls := .type "list", data := .seq vs.toArray } → IntsAre vs ns → ns.length ≤ n → s₁.gens = #[] →
      codeAny (model l.prog w) callerA (.call (.ref fa) ⟨[.ref a], []⟩) (fun r s' => r = .ok (.ret (.bool true)) ∧ OldK s₁.heap s'.heap ∧ s'.os = s₁.os ∧ AllBare s'.gens) s₁) :
    WalkO q loose XP YP l.row.toRowW d [] (fun f vs => PySem.call f vs) := by
  intro w s₀ s₁ mg mb G Y fa o pm cd doc dV kV ho hd hcd hD hmg hg args vals as hpre hlay hrd hwl hlo
  obtain rfl : dV = .none := Dflts.none hD hdf
  obtain rfl : kV = .none := Dflts.noKw hD
  obtain ⟨a, vs, ns, rfl, rfl, hobj, hints, hlen⟩ := script_of hn hpre hwl
  refine enter_call (codeAny_mono (call w s₀ s₁ mg mb fa o pm cd doc a vs ns G Y ho (fd_plain hd) hcd hmg hobj hints hlen hg) fun r s' hq => ?_)
  obtain ⟨rfl, h2, h3, h4⟩ := hq
  exact ⟨.inl ⟨.bool true, .bool true, [], rfl, fun _ => rfl, .bool true, post_true l _, fun _ => ⟨List.Pairwise.nil, fun _ hm => (nomatch hm)⟩⟩, h2, h3, h4⟩
section
variable {prog : Program} {w : World} {A : Around} {E : Value → Shared → Prop} {s : Shared} {K : Frag}
def ledger (h : Heap) (L d : Addr) : List (Addr × Obj) := (List.range h.objs.size).filterMap fun a => if a = L ∨ a = d then none else (h.get? a).map fun o => (a, o)
end
end Att

namespace L2
open PySem PySem.Spec PyProof.Rows

theorem vals_ints : ∀ {vs : List Value} {ns : List Int}, IntsAre vs ns → Vals (ns.map V.int) vs
  | _, _, .nil => .nil
  | _, _, .cons n t h => .cons ⟨t, rfl⟩ (vals_ints h)
def Only (H : Hp) : Prop := ∀ b, H b = none ∨ ∃ o xs, H b = some (.frz o (.lst xs))
theorem law_call {P : Program} {w : World} {K : PySem.W.Frag} {mg mb : Str → Option Value} {CX : CXT} {k : Nat} {fa a : Addr} {fd : FuncData} {x : Str} {sp : Sp} {s₁ : Shared} {vs : List Value} {ns : List Int}
    (KX : K.In s₁.heap) (hns : s₁.heap.Ns mainGlobals mg) (hb : s₁.heap.Ns builtinsNs mb) (hbb : ∀ x : Str, x ≠ "__name__" → mb x = bootBuiltins x) (hlim : s₁.heap.NoLimit) (hg : s₁.gens = #[])
    (ha : s₁.heap.get? a = some { cls := .type "list", data := .seq vs.toArray }) (hi : IntsAre vs ns) (hl : ns.length ≤ sizeLine) (hr : Room k callerA)
    (F : ∀ base : Heap, K.In base → base.Ns mainGlobals mg → FnOk P w K mg base CX k fa fd [x] sp) (hbind : ∀ (s : Shared) (u : Value), BindsTo s fd ⟨[u], []⟩ [(x, u)])
    (hsp : ∀ H : Hp, Only H → SqL K H a (ns.map V.int) → sp [.ref a] H (fun v _ => v = .bl true) fun _ _ _ => False)
    (hCX : ∀ H e s', CX [] H s₁ (fun _ _ _ => False) e s' → False) :
    codeAny (model P w) callerA (.call (.ref fa) ⟨[.ref a], []⟩) (fun r s' => r = .ok (.ret (.bool true)) ∧ OldK s₁.heap s'.heap ∧ s'.os = s₁.os ∧ AllBare s'.gens) s₁ := by
  have rv := vals_ints hi
  have lenV := hi.length
  have core : ∀ H : Hp, Only H → SqL K H a (ns.map V.int) → HOk P w H s₁.heap → (∀ b, H b ≠ none → b = a) → (H a ≠ none → K.lookup a = none) →
      codeAny (model P w) callerA (.call (.ref fa) ⟨[.ref a], []⟩) (fun r s' => r = .ok (.ret (.bool true)) ∧ OldK s₁.heap s'.heap ∧ s'.os = s₁.os ∧ AllBare s'.gens) s₁ := by
    intro H hO hS hok hA hK
    have base_of : ∀ {b : Addr} {o : Obj}, s₁.heap.get? b = some o → H b = none → (hidT s₁.heap H).get? b = some o := fun e n => hidT_get e n
    have noA : ∀ {b : Addr} {o : Obj} {es : Array DictEntry} {ep : Nat}, s₁.heap.get? b = some o → o.data = .dict es ep → H b = none := fun {b o es ep} e d => by
      cases q : H b with
      | none => rfl
      | some u =>
        have e' : b = a := hA b (by rw [q]; simp)
        subst e'
        rw [ha] at e; cases e
        have d' : Data.seq vs.toArray _ = Data.dict es ep := d
        cases d'
    have nsK : ∀ {b : Addr} {m : Str → Option Value}, s₁.heap.Ns b m → (hidT s₁.heap H).Ns b m := fun {b m} ⟨o, es, ep, e, d, r⟩ => ⟨o, es, ep, base_of e (noA e d), d, r⟩
    have hKb : K.In (hidT s₁.heap H) := fun b o e => base_of (KX b o e) (by
      cases q : H b with
      | none => rfl
      | some u =>
        have e' : b = a := hA b (by rw [q]; simp)
        subst e'
        rw [hK (by rw [q]; simp)] at e; cases e)
    have hM : Mod K mg (hidT s₁.heap H) := ⟨hKb, nsK hns, ⟨mb, nsK hb, hbb⟩, let ⟨mc, h1, h2⟩ := hlim; ⟨mc, nsK h1, h2⟩⟩
    have e0 : Env0 P w K mg (hidT s₁.heap H) callerA [] s₁ H := ⟨rfl, hM, fun b o e => of_hidT e, Nat.le_of_eq (hidT_size _ _), trivial, fun b hb => absurd (show b ∈ ([] : List Addr) from hb) (by simp), hok, .of_eq hg⟩
    refine codeAny_mono ((F _ hKb (nsK hns)).run callerA [] s₁ H ⟨[.ref a], []⟩ [.ref a] [.ref a] _ _ hr e0 (hbind s₁ (.ref a)) (.cons rfl .nil) (hsp H hO hS)) fun r s' h => ?_
    cases r with
    | error e => exact (hCX H e s' h).elim
    | ok fl =>
      cases fl with
      | next => exact False.elim h
      | brk => exact False.elim h
      | cont => exact False.elim h
      | ret u =>
        obtain ⟨v, H', os, bare, un, hok', r', q⟩ := h
        have q' : v = .bl true := q
        subst q'
        obtain rfl : u = Value.bool true := r'
        refine ⟨rfl, OldK.of_keep fun b o e => ?_, os, bare⟩
        cases q : H b with
        | none => exact un.keep b o e q (by intro z; exact absurd (show b ∈ ([] : List Addr) from z) (by simp)) (by simp)
        | some u =>
          rcases hO b with z | ⟨ob, xs, z⟩
          · rw [q] at z; cases z
          · have z2 := un.frzs b ob _ z
            obtain ⟨e1, _⟩ := hok b _ z
            obtain ⟨e2, _⟩ := hok' b _ z2
            rw [e] at e1; cases e1
            exact e2
  cases hk : K.lookup a with
  | some o =>
    have e := KX a o hk
    rw [ha] at e
    cases e
    refine core (fun _ => none) (fun _ => .inl rfl) (.inr ⟨_, vs.toArray, _, hk, rfl, rfl, rfl, by rw [List.size_toArray, lenV]; exact hl, by simpa using rv⟩) (fun b u z => by have z' : (none : Option HO) = some u := z; cases z') (fun b z => absurd rfl z) fun z => absurd rfl z
  | none =>
    refine core (fun b => if b = a then some (.frz { cls := .type "list", data := .seq vs.toArray } (.lst (ns.map V.int))) else none) (fun b => ?_) (.inl (.inr ⟨{ cls := .type "list", data := .seq vs.toArray }, if_pos rfl⟩)) (fun b u z => ?_) (fun b z => ?_) fun _ => hk
    · by_cases hb : b = a
      · exact .inr ⟨_, _, if_pos hb⟩
      · exact .inl (if_neg hb)
    · by_cases hb : b = a
      · have z' := (if_pos hb).symm.trans z
        cases z'
        subst hb
        exact ⟨ha, by rw [List.length_map]; exact hl, vs, _, rv, ha⟩
      · have z' := (if_neg hb).symm.trans z
        cases z'
    · by_cases hb : b = a
      · exact hb
      · exact absurd (if_neg hb) z
end L2

namespace L2
open PySem PySem.Spec PyProof.Rows

abbrev KOf {K : PySem.W.Frag} {h : Heap} (_ : K.In h) : PySem.W.Frag := K
theorem walk_of {l : PySem.W.OpenLaw} {n k : Nat} {q : Program} {loose : List Str} {XP : (Str → Option Value) → Heap → Prop} {YP : World → Heap → Prop} {d : DefRec} {K : Params → PySem.W.Frag} {CX : World → CXT} {sp : World → Sp} {x : Str}
    (hn : l.most = some n) (hn2 : n ≤ sizeLine) (hdf : d.params.defaults = []) (hr : Room k callerA)
    (hY : ∀ (w : World) (h : Heap), YP w h → (K w.params).In h)
    (F : ∀ (w : World) (mg : Str → Option Value) (fa : Addr) (h : Heap), (K w.params).In h → h.Ns mainGlobals mg → mg d.name = some (.ref fa) →
      ∃ fd : FuncData, (∀ (s : Shared) (u : Value), BindsTo s fd ⟨[u], []⟩ [(x, u)]) ∧
        ∀ base : Heap, (K w.params).In base → base.Ns mainGlobals mg → FnOk l.prog w (K w.params) mg base (CX w) k fa fd [x] (sp w))
    (hsp : ∀ (w : World) (H : Hp) (a : Addr) (ns : List Int), ns.length ≤ n → Only H → SqL (K w.params) H a (ns.map V.int) → sp w [.ref a] H (fun v _ => v = .bl true) fun _ _ _ => False)
    (hCX : ∀ (w : World) (H : Hp) (s : Shared) (e : Value) (s' : Shared), CX w [] H s (fun _ _ _ => False) e s' → False) :
    PySem.W.WalkO q loose XP YP l.row.toRowW d [] (fun f vs => PySem.call f vs) := by
  refine Att.attach_call hn hdf fun w s₀ s₁ mg mb fa o pm cd doc a vs ns G Y ho hd hcd hmg hobj hints hlen hg => ?_
  have KX := hY w _ Y
  obtain ⟨fd, hb, hF⟩ := F w mg fa _ KX G.T.g hmg
  exact law_call KX G.T.g G.T.b G.T.builtins G.T.nolimit hg hobj hints (Nat.le_trans hlen hn2) hr hF hb (fun H hO hS => hsp w H a ns hlen hO hS) fun H e s' => hCX w H s₁ e s'
theorem walk_ofK {l : PySem.W.OpenLaw} {n k : Nat} {q : Program} {loose : List Str} {XP : (Str → Option Value) → Heap → Prop} {YP : World → Heap → Prop} {d : DefRec} {K : Params → PySem.W.Frag} {CX : CXT} {sp : PySem.W.Frag → Sp} {x : Str}
    (hn : l.most = some n) (hn2 : n ≤ sizeLine) (hdf : d.params.defaults = []) (hr : Room k callerA)
    (hY : ∀ (w : World) (h : Heap), YP w h → (K w.params).In h)
    (F : ∀ (w : World) (mg : Str → Option Value) (fa : Addr) (h : Heap), (K w.params).In h → h.Ns mainGlobals mg → mg d.name = some (.ref fa) →
      ∃ fd : FuncData, (∀ (s : Shared) (u : Value), BindsTo s fd ⟨[u], []⟩ [(x, u)]) ∧
        ∀ base : Heap, (K w.params).In base → base.Ns mainGlobals mg → FnOk l.prog w (K w.params) mg base CX k fa fd [x] (sp (K w.params)))
    (hsp : ∀ (K : PySem.W.Frag) (H : Hp) (a : Addr) (ns : List Int), ns.length ≤ n → Only H → SqL K H a (ns.map V.int) → sp K [.ref a] H (fun v _ => v = .bl true) fun _ _ _ => False)
    (hCX : ∀ (H : Hp) (s : Shared) (e : Value) (s' : Shared), CX [] H s (fun _ _ _ => False) e s' → False) :
    PySem.W.WalkO q loose XP YP l.row.toRowW d [] (fun f vs => PySem.call f vs) :=
  walk_of (K := K) (CX := fun _ => CX) (sp := fun w => sp (K w.params)) hn hn2 hdf hr hY F (fun w H a ns h1 h2 h3 => hsp (K w.params) H a ns h1 h2 h3) fun _ H s e s' => hCX H s e s'
end L2

/- THE LAST THEOREM (shape; LID, My.* are yours):
   My.Adr: a structure of the addresses that your layer names (classes, functions); My.Txt K t: a structure (Prop) of the equations over K;
   My.txt_mk : {K} {implicit addresses ..} (e1 : nsIn K mainGlobals "law" = some (some (.ref f))) (e2 : K.lookup f = some ⟨oc, od, .func (fnOf "law" "law" params body scope dV kV doc pm an cdv ct), sl⟩) (e3 : codeIn K cdv "law" = true) .. : ∃ t, My.Txt K t

set_option maxRecDepth 100000 in
set_option maxHeartbeats 0 in
theorem PySem.Challenge.cw_LID_holds : PySem.Challenge.rw_LID.Holds := by
  w_on; o_law; k_head; (case hw => w_witness2)
  k_fill
  refine L2.walk_of (l := PySem.Challenge.rw_LID) (n := 63) (k := 40) (x := "script") (CX := fun w => ..) (sp := fun _ => My.sp_law) rfl (by decide) rfl ⟨rfl, by decide, by decide⟩ (fun w h Y => PySem.W.kIn_of Y) ?F ?S ?C
  case F =>
    intro w mg fa h KX G hmg
    have T : ∃ t, My.Txt (L2.KOf KX) t := by
      dsimp only [L2.KOf]                          -- K must stand as «<heap const> w.params» for k_is
      refine' My.txt_mk ?e1 ?e2 ?e3 ..
      (case e1 => PySem.W.k_is)                    -- in the order: a name -> its address -> its object -> its parts
      (case e2 => PySem.W.k_is)
      ..
    obtain ⟨t, T⟩ := T
    have e0 := hmg.symm.trans (PySem.W.mg_of KX G T.law)
    cases e0                                       -- fa is the law's own address
    exact ⟨_, fun s u => .of_eq rfl, fun base kb nb => My.law_fn T kb nb⟩     -- if «.of_eq rfl» comes too early: refine' ⟨_, ?b, fun base kb nb => My.law_fn T kb nb⟩; exact fun s u => .of_eq rfl
  case S => exact fun w H a ns hl hO hS => ..
  case C => exact ..
(the tactic k_is has no namespace: write k_is) -/
namespace L2
open PySem PySem.Spec PyProof.Rows
def inClass (s : Stmt) (j : Nat) : Stmt := match s with
  | .ClassDef _ _ _ body _ _ _ _ _ _ _ => body.getD j (.Pass ⟨0, 0, 0, 0⟩)
  | _ => .Pass ⟨0, 0, 0, 0⟩
def defArgs (s : Stmt) : Arguments := match s with
  | .FunctionDef _ a _ _ _ _ _ _ _ _ => a
  | _ => { posonlyargs := [], args := [], vararg := none, kwonlyargs := [], kw_defaults := [], kwarg := none, defaults := [] }
def defBody (s : Stmt) : List Stmt := match s with
  | .FunctionDef _ _ b _ _ _ _ _ _ _ => b
  | _ => []
def defScope (s : Stmt) : Scope := match s with
  | .FunctionDef _ _ _ _ _ _ sc _ _ _ => sc
  | _ => { kind := .function, names := [], isGenerator := false, isCoroutine := false }
abbrev CX0 : CXT := fun _ _ _ _ _ _ => False
abbrev E0 : XK := fun _ _ _ => False
theorem pass0 {X : Cx} : Passes CX0 X E0 := fun _ _ _ _ _ _ _ h => h.elim
structure Fun (K : PySem.W.Frag) (x qual : Str) (st : Stmt) (f : Addr) (fd : FuncData) : Prop where
  ex : ∃ (oc : Value) (od : Option Addr) (kV doc pm : Value) (an : Option Addr) (cdv ct : Value) (osl : Array (Option Value)),
    fd = PySem.W.fnOf x qual (defArgs st) (defBody st) (defScope st) .none kV doc pm an cdv ct ∧ K.lookup f = some ⟨oc, od, .func fd, osl⟩ ∧ PySem.W.codeIn K cdv qual = true
  kp : PySem.W.keepIn K (.ref f) = true
section
variable {P : Program} {w : World} {K : PySem.W.Frag} {mg : Str → Option Value} {base : Heap}
theorem Fun.ok {x qual : Str} {st : Stmt} {f : Addr} {fd : FuncData} {N ps : List Str} {k : Nat} {sp : Sp} (F : Fun K x qual st f fd) (S : FnScope N ps (defScope st)) (len : ∀ vs H Q E, sp vs H Q E → vs.length = ps.length)
    (hbody : ∀ (cdv : Value) (A : Around) (outer : List Env) (s : Shared) (H : Hp) (vs : List V) (Q : VK) (E : XK), Room k (A.deeper (envOfC qual (defScope st) s.heap.objs.size f cdv)) → sp vs H Q E →
      ∃ t, PSs (cxOf CX0 P w K mg base N qual (defScope st) f cdv A outer s H E).nox (defBody st) t ∧ t { nx := fun _ H' => Q .non H', rt := Q } (start N vs) H) : FnOk P w K mg base CX0 (k + 1) f fd ps sp := by
  obtain ⟨oc, od, kV, doc, pm, an, cdv, ct, osl, rfl, lk, hcd⟩ := F.ex
  refine fn_of lk hcd S len fun A outer s H vs Q E hr hsp => ?_
  obtain ⟨t, h, q⟩ := hbody cdv A outer s H vs Q E hr hsp
  exact ⟨t, h.nox, q⟩
theorem Fun.binds {x qual : Str} {st : Stmt} {f : Addr} {fd : FuncData} {ps : List Str} (F : Fun K x qual st f fd)
    (h : ∀ (kV doc pm : Value) (an : Option Addr) (cdv ct : Value) (us : List Value), us.length = ps.length → bindArgs (PySem.W.fnOf x qual (defArgs st) (defBody st) (defScope st) .none kV doc pm an cdv ct) ⟨us, []⟩ = pure (ps.zip us)) : Binds K fd ps [] := by
  obtain ⟨oc, od, kV, doc, pm, an, cdv, ct, osl, rfl, lk, hcd⟩ := F.ex
  exact .all (h kV doc pm an cdv ct)
theorem fun_mk {x qual : Str} {st : Stmt} {f : Addr} {oc : Value} {od an : Option Addr} {osl : Array (Option Value)} {kV doc pm cdv ct : Value} (l : K.lookup f = some ⟨oc, od, .func (PySem.W.fnOf x qual (defArgs st) (defBody st) (defScope st) .none kV doc pm an cdv ct), osl⟩)
    (c : PySem.W.codeIn K cdv qual = true) (k : PySem.W.keepIn K (.ref f) = true) : Fun K x qual st f (PySem.W.fnOf x qual (defArgs st) (defBody st) (defScope st) .none kV doc pm an cdv ct) := ⟨⟨oc, od, kV, doc, pm, an, cdv, ct, osl, rfl, l, c⟩, k⟩
end
theorem small1000 {n : Nat} (h : n ≤ 1000) : n < sizeLine := Nat.lt_of_le_of_lt h (by decide)
section
variable {X : Cx}
theorem pv (i : Nat) {x : Str} {pos : Pos} (hN : X.N[i]? = some x := by rfl) (hv : Vis X.env.scope x := by first | exact Or.inl rfl | exact Or.inr (Or.inl rfl) | exact Or.inr (Or.inr rfl)) (hd : (x == ("__debug__" : Str)) = false := by decide)
    (hcd : (x == ("__classdict__" : Str)) = false := by decide) : PE X (.Name x pos) (tVar i) := pe_var hN hv hd hcd
end
theorem iteF {A B : Prop} (h : B) : if false = true then A else B := by
  rw [if_neg Bool.false_ne_true]
  exact h
theorem iteT {A B : Prop} (h : A) : if true = true then A else B := by
  rw [if_pos rfl]
  exact h
theorem ite2 {c A B : Prop} [Decidable c] (h1 : c → A) (h2 : ¬ c → B) : if c then A else B := by
  by_cases h : c
  · rw [if_pos h]
    exact h1 h
  · rw [if_neg h]
    exact h2 h
theorem iteNS {c A B : Prop} [Decidable c] (hc : c) (h : B) : if (!decide c) = true then A else B := by
  rw [decide_eq_true hc]
  exact iteF h
def Same (H H' : Hp) : Prop := ∀ b o, H b = some o → H' b = some o
theorem Same.refl (H : Hp) : Same H H := fun _ _ h => h
theorem Same.trans {H H1 H2 : Hp} (a : Same H H1) (b : Same H1 H2) : Same H H2 := fun c o h => b c o (a c o h)
theorem Same.free {H H' : Hp} (e : Same H H') {l : Addr} (h : H' l = Option.none) : H l = Option.none := by
  cases q : H l with
  | none => rfl
  | some o =>
    rw [e l o q] at h
    cases h
theorem Same.seq {K : PySem.W.Frag} {H H' : Hp} {a : Addr} {xs : List V} (e : Same H H') (h : SqL K H a xs) : SqL K H' a xs := by
  rcases h with (h | ⟨o, h⟩) | h
  · exact .inl (.inl (e _ _ h))
  · exact .inl (.inr ⟨o, e _ _ h⟩)
  · exact .inr h

end L2
section
set_option maxHeartbeats 4000001
namespace L2
open PySem PySem.Spec PyProof.Rows
def clOf (cells : List (Str × Addr)) : List (Str × NameKind) → List (Str × Addr) → List (Str × Addr)
  | [], cs => cs
  | (n, k) :: r, cs => if k == .free then clOf cells r ((n, (cells.lookup n).getD 0) :: cs) else clOf cells r cs
theorem clOf_run {env : Env} : ∀ (names : List (Str × NameKind)) (cs : List (Str × Addr)), (∀ y ∈ names, y.2 = .free → ∃ c, env.cells.lookup y.1 = some c) →
    (forIn names cs fun x r => match x with | (name, kind) => if (kind == NameKind.free) = true then (do let a ← cellOf env name; pure (ForInStep.yield ((name, a) :: r))) else pure (ForInStep.yield r) : Sem (List (Str × Addr))) = pure (clOf env.cells names cs)
  | [], cs, _ => rfl
  | (n, k) :: r, cs, h => by
    rw [List.forIn_cons]
    by_cases e : (k == NameKind.free) = true
    · obtain ⟨c, hc⟩ := h (n, k) List.mem_cons_self (by simpa using e)
      have hcell : cellOf env n = pure c := by
        have hc' : env.cells.lookup n = some c := hc
        unfold cellOf; rw [hc']
      simp only [e, if_true, hcell, pure_bind]
      rw [clOf_run r _ fun y hy => h y (List.mem_cons_of_mem _ hy)]
      have hc' : env.cells.lookup n = some c := hc
      show _ = pure (if (k == NameKind.free) = true then _ else _)
      rw [if_pos e, hc']
      rfl
    · have ef : (k == NameKind.free) = false := by simpa using e
      simp only [ef, Bool.false_eq_true, if_false, pure_bind]
      rw [clOf_run r _ fun y hy => h y (List.mem_cons_of_mem _ hy)]
      show _ = pure (if (k == NameKind.free) = true then _ else _)
      rw [if_neg e]
theorem closure_eq {scope : Scope} {env : Env} (h : ∀ y ∈ scope.names, y.2 = .free → ∃ c, env.cells.lookup y.1 = some c) : closureFor scope env = pure (clOf env.cells scope.names []) := by
  unfold closureFor
  show (forIn scope.names [] _ >>= fun r => pure r) = _
  rw [bind_pure]
  exact clOf_run _ _ h
theorem clOf_sub {cells : List (Str × Addr)} : ∀ (names : List (Str × NameKind)) (cs : List (Str × Addr)) (x : Str) (c : Addr), (∀ y ∈ names, y.2 = .free → ∃ c, cells.lookup y.1 = some c) →
    (∀ x c, cs.lookup x = some c → cells.lookup x = some c) → (clOf cells names cs).lookup x = some c → cells.lookup x = some c
  | [], cs, x, c, _, hs, e => hs x c e
  | (n, k) :: r, cs, x, c, h, hs, e => by
    unfold clOf at e
    by_cases q : (k == NameKind.free) = true
    · rw [if_pos q] at e
      obtain ⟨c0, hc0⟩ := h (n, k) List.mem_cons_self (by simpa using q)
      refine clOf_sub r _ x c (fun y hy => h y (List.mem_cons_of_mem _ hy)) (fun x' c' e' => ?_) e
      rw [List.lookup_cons] at e'
      cases hx : x' == n with
      | true =>
        rw [hx] at e'
        have hx' : x' = n := by simpa using hx
        subst hx'
        have hc0' : cells.lookup x' = some c0 := hc0
        rw [hc0'] at e' ⊢
        exact e'
      | false =>
        rw [hx] at e'
        exact hs x' c' e'
    · rw [if_neg q] at e
      exact clOf_sub r _ x c (fun y hy => h y (List.mem_cons_of_mem _ hy)) hs e
theorem clOf_keep {cells : List (Str × Addr)} : ∀ (names : List (Str × NameKind)) (cs : List (Str × Addr)) (x : Str), (∃ c, cs.lookup x = some c) → ∃ c, (clOf cells names cs).lookup x = some c
  | [], cs, x, e => e
  | (n, k) :: r, cs, x, e => by
    unfold clOf
    by_cases q : (k == NameKind.free) = true
    · rw [if_pos q]
      refine clOf_keep r _ x ?_
      rw [List.lookup_cons]
      cases hx : x == n with
      | true => exact ⟨_, rfl⟩
      | false => exact e
    · rw [if_neg q]
      exact clOf_keep r _ x e
theorem clOf_has {cells : List (Str × Addr)} : ∀ (names : List (Str × NameKind)) (cs : List (Str × Addr)) (x : Str), names.lookup x = some .free → ∃ c, (clOf cells names cs).lookup x = some c
  | [], cs, x, e => by simp at e
  | (n, k) :: r, cs, x, e => by
    rw [List.lookup_cons] at e
    unfold clOf
    cases hx : x == n with
    | true =>
      rw [hx] at e
      have e' : k = .free := Option.some.inj e
      subst e'
      rw [if_pos (by decide)]
      refine clOf_keep r _ x ?_
      rw [List.lookup_cons, hx]
      exact ⟨_, rfl⟩
    | false =>
      rw [hx] at e
      by_cases q : (k == NameKind.free) = true
      · rw [if_pos q]; exact clOf_has r _ x e
      · rw [if_neg q]; exact clOf_has r _ x e
def asCell (env : Env) (p : Str × NameKind) : Bool := p.2 == .free && env.scope.kind == .function && env.kindOf p.1 == some .cell
def inBlock (env : Env) (p : Str × NameKind) : Str × NameKind := if asCell env p = true then (p.1, .cell) else p
theorem inBlock_fst (env : Env) (p : Str × NameKind) : (inBlock env p).1 = p.1 := by unfold inBlock; split <;> rfl
theorem inBlock_snd (env : Env) (p : Str × NameKind) : (inBlock env p).2 = p.2 ∨ ((inBlock env p).2 = .cell ∧ p.2 = .free) := by
  unfold inBlock
  split
  · rename_i h
    refine .inr ⟨rfl, ?_⟩
    unfold asCell at h
    cases e : p.2 <;> simp [e] at h <;> rfl
  · exact .inl rfl
theorem relabel_names (scope : Scope) (env : Env) : (relabel scope env).names = scope.names.map (inBlock env) := rfl
theorem look_map {f : Str × NameKind → Str × NameKind} (hf : ∀ p, (f p).1 = p.1) : ∀ (l : List (Str × NameKind)) (x : Str), (l.map f).lookup x = none ∧ l.lookup x = none ∨ ∃ p ∈ l, (l.map f).lookup x = some (f p).2 ∧ l.lookup x = some p.2
  | [], _ => .inl ⟨rfl, rfl⟩
  | p :: r, x => by
    have e1 : ((p :: r).map f).lookup x = if x == p.1 then some (f p).2 else (r.map f).lookup x := by
      show List.lookup x (((f p).1, (f p).2) :: r.map f) = _
      rw [List.lookup_cons, hf p]; cases x == p.1 <;> rfl
    have e2 : (p :: r).lookup x = if x == p.1 then some p.2 else r.lookup x := by
      show List.lookup x ((p.1, p.2) :: r) = _
      rw [List.lookup_cons]; cases x == p.1 <;> rfl
    rw [e1, e2]
    cases x == p.1
    · rcases look_map hf r x with z | ⟨q, hq, z⟩
      · exact .inl z
      · exact .inr ⟨q, List.mem_cons_of_mem _ hq, z⟩
    · exact .inr ⟨p, List.mem_cons_self, rfl, rfl⟩
theorem relabel_kind {scope : Scope} {env : Env} {x : Str} {k' : NameKind} (h : (relabel scope env).names.lookup x = some k') : scope.names.lookup x = some k' ∨ (k' = .cell ∧ scope.names.lookup x = some .free) := by
  rw [relabel_names] at h
  rcases look_map (inBlock_fst env) scope.names x with ⟨z, _⟩ | ⟨p, _, z, e⟩
  · rw [z] at h; cases h
  · rw [z] at h
    obtain rfl := Option.some.inj h
    rcases inBlock_snd env p with q | ⟨q, q'⟩
    · rw [q]; exact .inl e
    · exact .inr ⟨q, by rw [e, q']⟩
theorem relabel_free {scope : Scope} {env : Env} {x : Str} (h : scope.names.lookup x = some .free) : (relabel scope env).names.lookup x = some .cell ∨ (relabel scope env).names.lookup x = some .free := by
  rw [relabel_names]
  rcases look_map (inBlock_fst env) scope.names x with ⟨_, z⟩ | ⟨p, _, z, e⟩
  · rw [z] at h; cases h
  · rw [e] at h
    rcases inBlock_snd env p with q | ⟨q, _⟩
    · rw [z, q, h]; exact .inr rfl
    · rw [z, q]; exact .inl rfl
def cxComp (X : Cx) (N' : List Str) (scope : Scope) (C : Addr) (s₀ : Shared) (H₀ : Hp) (fp : List Addr) (pins : List (Addr × Obj)) : Cx :=
  { X with N := N', s₀ := s₀, H₀ := H₀, env := compEnvC scope (clOf X.env.cells scope.names []) C X.env, outer := X.stack, stack := X.stack, ex := fp, fn := fun _ => false, pn := X.pn ++ pins, xe := fun _ _ => False }
def capσ (cap : List (Option Nat)) (σ : St) : St := cap.map fun o => match o with | some i => (match σ[i]? with | some v => v | none => none) | none => none
def tst (M : Model) (A : Around) (env : Env) (E : Value → Shared → Prop) (o : Option Expr) (Q : Bool → Shared → Prop) (s : Shared) : Prop := match o with
  | none => Q true s
  | some c => wpAny M A (isTrue c env (eval c env)) Q E s
theorem tst_mono {M : Model} {A : Around} {env : Env} {E : Value → Shared → Prop} {o : Option Expr} {Q Q' : Bool → Shared → Prop} {s : Shared} (h : tst M A env E o Q s) (k : ∀ b z, Q b z → Q' b z) : tst M A env E o Q' s := by
  cases o with
  | none => exact k _ _ h
  | some c => exact thn h k
def PTo (X : Cx) (o : Option Expr) (t : TT) : Prop :=
  ∀ (pins : List (Addr × Obj)) (s : Shared) (σ : St) (H : Hp) (Q : Bool → Hp → Prop), Inv X pins σ H s → t σ H Q → tst (model X.prog X.w) X.A X.env X.xe o (TP X pins σ Q) s
def tYes : TT := fun _ H Q => Q true H
theorem pt_none {X : Cx} : PTo X none tYes := fun _ _ _ H _ I h => ⟨H, I, h⟩
abbrev NoX : Value → Shared → Prop := fun _ _ => False
def Go (M : Model) (A : Around) (tg elt : Expr) (o : Option Expr) (it acc : Value) (env : Env) (R : Result → Shared → Prop) (onward : Shared → Prop) (s : Shared) : Prop :=
  wpAny M A (pyNext it) (fun r a => match r with
    | none => R (.ok .next) a
    | some v => wpAny M A (letOwnedTupleGo tg it v) (fun _ b => wpAny M A (assign tg env v) (fun _ c => tst M A env NoX o (fun yes d =>
        if yes = true then wpAny M A (eval elt env) (fun x e => wpAny M A (call (.builtin "list.append") [acc, x]) (fun _ f => onward f) NoX e) NoX d else onward d) c) NoX b) NoX a) NoX s
theorem comp_loop {prog : Program} {w : World} {A : Around} {R : Result → Shared → Prop} {s : Shared} {elt tg iter : Expr} {o : Option Expr} {scope : Scope} {pos : Pos} {it acc : Value} {env : Env} (J : Nat → Shared → Prop)
    (turn : ∀ n s, J n s → Go (model prog w) A tg elt o it acc env R (fun z => ∃ m, m < n ∧ J m z) s) (n : Nat) (h : J n s) :
    codeAny (model prog w) A (.compLoop (.ListComp elt [⟨tg, iter, o.toList, 0⟩] scope pos) 0 it acc env) R s := by
  cases o with
  | none =>
    refine PySem.W.kcp_loop J (fun n a ha => wpAny_mono (turn n a ha) (fun r b hb => ?_) fun _ _ z => z.elim) n h
    cases r with
    | none => exact hb
    | some v => exact wpAny_mono hb (fun _ c hc => wpAny_mono hc (fun _ d hd => wpAny_mono (show wpAny _ _ _ _ _ d from hd) (fun x e he => wpAny_mono he (fun _ _ q => q) fun _ _ z => z.elim) fun _ _ z => z.elim) fun _ _ z => z.elim) fun _ _ z => z.elim
  | some t =>
    refine PySem.W.kct_loop J (fun n a ha => wpAny_mono (turn n a ha) (fun r b hb => ?_) fun _ _ z => z.elim) n h
    cases r with
    | none => exact hb
    | some v =>
      refine wpAny_mono hb (fun _ c hc => wpAny_mono hc (fun _ d hd => wpAny_mono (show wpAny _ _ _ _ _ d from hd) (fun yes e he => ?_) fun _ _ z => z.elim) fun _ _ z => z.elim) fun _ _ z => z.elim
      cases yes
      · exact he
      · exact wpAny_mono (show wpAny _ _ _ _ _ e from he) (fun x f hf => wpAny_mono hf (fun _ _ q => q) fun _ _ z => z.elim) fun _ _ z => z.elim
structure CapOk (N N' : List Str) (sc scope : Scope) (cap : List (Option Nat)) : Prop where
  kind : scope.kind = .function
  nocell : ∀ y ∈ scope.names, y.2 ≠ .cell
  names : ∀ y ∈ scope.names, y.2 = .local → scope.names.lookup y.1 = some .local
  free : ∀ y ∈ scope.names, y.2 = .free → sc.names.lookup y.1 = some .cell ∨ sc.names.lookup y.1 = some .free
  len : cap.length = N'.length
  cap : ∀ p ∈ N'.zip cap, ∀ i, p.2 = some i → N[i]? = some p.1 ∧ scope.names.lookup p.1 = some .free ∧ (sc.names.lookup p.1 = some .cell ∨ sc.names.lookup p.1 = some .free)
theorem lookup_mem {α : Type} : ∀ {l : List (Str × α)} {x : Str} {a : α}, l.lookup x = some a → (x, a) ∈ l
  | [], _, _, h => by simp at h
  | (n, k) :: r, x, a, h => by
    rw [List.lookup_cons] at h
    cases hx : x == n with
    | true =>
      rw [hx] at h
      have e : k = a := Option.some.inj h
      have e2 : x = n := by simpa using hx
      subst e e2
      exact List.mem_cons_self
    | false => rw [hx] at h; exact List.mem_cons_of_mem _ (lookup_mem h)

theorem HOk.sameBut {P : Program} {w : World} {H : Hp} {h h' : Heap} {C : Addr} (ok : HOk P w H h) (hC : H C = none) (sb : Heap.SameBut C h h') : HOk P w H h' := fun b ob e => by
  refine (ok b ob e).stay (fun c w' hc q => (sb.2 c ?_).trans q) (fun _ q => q) fun _ _ q => q
  rintro rfl
  rcases hc with rfl | hc
  · rw [hC] at e; cases e
  · rw [hC] at hc; cases hc
def LCW (J : It) (g : TG) (tt : TT) (te : TE) (l : Addr) (Q : VK) (W : Nat → Nat → List V → St → Hp → Prop) : Prop :=
  ∀ i m acc σ' H', W i m acc σ' H' → H' l = some (.lst acc) ∧
    ((J.stop i H' ∧ Q (.ref l) H') ∨ (J.go i H' ∧ ∀ x H2, J.yld i H' x H2 → g x σ' H2 fun σ3 H3 => tt σ3 H3 fun b H4 =>
      if b = true then te σ3 H4 fun y H5 => H5 l = some (.lst acc) ∧ acc.length < sizeLine ∧ ∃ m', m' < m ∧ W (i + 1) m' (acc ++ [y]) σ3 (upd H5 l (.lst (acc ++ [y])))
      else ∃ m', m' < m ∧ W (i + 1) m' acc σ3 H4))
def tLC (cap : List (Option Nat)) (wi : TI) (g : TG) (tt : TT) (te : TE) : TE := fun σ H Q => wi σ H fun J H1 => ∀ l, H1 l = none →
  ∃ W : Nat → Nat → List V → St → Hp → Prop, (∃ m, W 0 m [] (capσ cap σ) (upd H1 l (.lst []))) ∧ LCW J g tt te l Q W
end L2
end
section
set_option maxHeartbeats 4000001
namespace L2
open PySem PySem.Spec PyProof.Rows
theorem lc_core {X : Cx} {elt tg iter : Expr} {o : Option Expr} {scope : Scope} {pos ppos : Pos} {wi : TI} {g : TG} {tt : TT} {te : TE} {N' : List Str} {cap : List (Option Nat)} {use : Option (Value → Sem Unit)} {Q0 : Value → Shared → Prop}
    (hc : X.calm = true) (hi : PI X tg iter wi) (ck : CapOk X.N N' X.env.scope scope cap)
    (hg : ∀ C s₀ H₀ fp pins, PG (cxComp X N' scope C s₀ H₀ fp pins) tg g)
    (ht : ∀ C s₀ H₀ fp pins, PTo (cxComp X N' scope C s₀ H₀ fp pins) o tt)
    (he : ∀ C s₀ H₀ fp pins, PE (cxComp X N' scope C s₀ H₀ fp pins) elt te)
    (hs : ∀ x, foldedSetIterable iter X.env x = pure x) {pins : List (Addr × Obj)} {s : Shared} {σ : St} {H : Hp} {Q : VK} (I : Inv X pins σ H s) (h : tLC cap wi g tt te σ H Q)
    (fin : ∀ (l C : Addr) (H4 : Hp) (s5 : Shared) (m : Str → Option Value), Inv X pins σ H4 s5 → Q (.ref l) H4 → s5.heap.Ns C m → FpOk X pins H4 C → compPost (model X.prog X.w) X.A X.xe use Q0 (.ref l) C (.ok .next) s5) :
    wpAny (model X.prog X.w) X.A (comprehension (.ListComp elt [⟨tg, iter, o.toList, 0⟩] scope pos) scope X.env ppos (newList []) false (eval iter X.env) use) Q0 X.xe s := by
  have hcells : ∀ y ∈ scope.names, y.2 = .free → ∃ c, X.env.cells.lookup y.1 = some c := fun y hy hf => I.ok.has y.1 (ck.free y hy hf)
  refine wpAny_comprehension_free (use := use) rfl hs (closure_eq hcells) ck.kind ck.names (thn (hi pins s σ H _ I h) fun v s1 h1 => thn h1 fun itv s2 h2 => ?_)
  obtain ⟨it, fp, tn, J, H2, e, I2, T, st2, f2, body⟩ := h2
  subst e
  have hfr2 : H2 s2.heap.objs.size = none := I2.hok.fresh (Nat.le_refl _)
  obtain ⟨W, ⟨m0, w0⟩, turn⟩ := body s2.heap.objs.size hfr2
  have I3 : Inv X pins σ (upd H2 s2.heap.objs.size (.lst [])) { s2 with heap := s2.heap.push { cls := .type "list", data := .seq ([] : List Value).toArray }, toks := s2.toks } := I2.lnew (its := []) (t' := s2.toks) .nil (Nat.zero_le _)
  refine wpAny_newObj_type (wpAny_newFunctionEnv ck.nocell (by intro y hy; simp at hy) (fun h₁ hns₁ hsb₁ => ?_) ck.kind)
  dsimp only at hns₁ hsb₁ ⊢
  generalize hl : s2.heap.objs.size = l at *
  generalize hP : s2.heap.push { cls := .type "list", dict := none, data := .seq ([] : List Value).toArray } = P2 at *
  generalize hH3 : upd H2 l (.lst []) = H3 at *
  have old : ∀ b o, P2.get? b = some o → h₁.get? b = some o := fun b o e => hsb₁.extBut b o (Nat.ne_of_lt (Heap.lt_size e)) (Heap.get?_push_of_some _ e)
  have old2 : ∀ b o, s2.heap.get? b = some o → P2.get? b = some o := fun b o e => hP ▸ Heap.get?_push_of_some _ e
  have fpl : ∀ b ∈ fp, b < l := fun b hb => by
    obtain ⟨o, e, _⟩ := T.obj _ _ st2 b hb
    rw [← hl]; exact Heap.lt_size e
  have fp3 : ∀ b ∈ fp, H3 b = none := fun b hb => by
    rw [← hH3, upd_ne (Nat.ne_of_lt (fpl b hb))]; exact (f2 b hb).1
  have hPs : P2.objs.size = l + 1 := by rw [← hP, Heap.size_push, hl]
  have subc : ∀ x c, (clOf X.env.cells scope.names []).lookup x = some c → X.env.cells.lookup x = some c := fun x c e => clOf_sub _ _ x c hcells (fun _ _ z => by simp at z) e
  generalize hs3 : ({ s2 with heap := P2, toks := s2.toks } : Shared) = s3 at *
  have hs3h : s3.heap = P2 := by rw [← hs3]
  let Y := cxComp X N' scope P2.objs.size s3 H3 fp pins
  have hYok : Y.Ok := by
    refine ⟨I3.ok.mod, ck.kind, I3.ok.glob, I3.ok.blt, by show s3.heap.objs.size ≤ P2.objs.size; rw [hs3h]; exact Nat.le_refl _, fun x y c e1 e2 => I3.ok.inj x y c (subc x c e1) (subc y c e2), fun x hx => ?_, fun x c hx => absurd (show false = true from hx) Bool.false_ne_true, I3.ok.hd, I3.ok.frames, .inl rfl, fun b hb => ⟨?_, fun x c e => ?_⟩, I3.bs,
      Nat.le_trans I3.ok.bsz I3.sz, fun b o e hb => ?_, fun b hb hz => ?_, I3.stack, I3.stkFree⟩
    · have hx' : scope.names.lookup x = some .free := by
        rcases hx with hx | hx
        · rcases relabel_kind hx with z | z
          · exact absurd rfl (ck.nocell _ (lookup_mem z))
          · exact z.2
        · rcases relabel_kind hx with z | z
          · exact z
          · exact z.2
      exact clOf_has _ _ x hx'
    · exact Nat.ne_of_lt (by show b < P2.objs.size; rw [hPs]; exact Nat.lt_succ_of_lt (fpl b hb))
    · exact (f2 b hb).2.2.2.2.1 x c (subc x c e)
    · rcases (f2 b hb).2.2.2.1 with z | z
      · exact I3.ok.noex b o e z
      · exact absurd (Nat.lt_of_lt_of_le (Heap.lt_size e) (Nat.le_trans I3.ok.bsz z)) (Nat.lt_irrefl _)
    · rcases List.mem_cons.mp (I3.stkSub b hz) with z | z
      · exact (f2 b hb).2.1 z
      · exact (f2 b hb).2.2.1 z
  have hYi : Inv Y [] (capσ cap σ) H3 { s2 with heap := h₁, toks := s2.toks } := by
    refine ⟨hYok, by show s2.os = s3.os; rw [← hs3], I2.bare, by show Un _ _ _ _ s3.heap h₁; rw [hs3h]; exact Un.kept old, ⟨_, hns₁, fun j x v e1 e2 e3 => ?_⟩, fun x c e => ?_, ?_, fun x c e => I3.freeC x c (subc x c e), fun p hp => ?_, fun b o e => ?_, ?_⟩
    · have e1' : N'[j]? = some x := e1
      unfold capσ at e2
      rw [List.getElem?_map] at e2
      cases ec : cap[j]? with
      | none => rw [ec] at e2; cases e2
      | some oc =>
        rw [ec] at e2
        cases oc with
        | none => cases e2
        | some i =>
          have e2' : σ[i]? = some (some v) := by
            cases ei : σ[i]? with
            | none => simp [ei] at e2
            | some v' =>
              simp [ei] at e2
              rw [e2]
          have hz : (x, some i) ∈ N'.zip cap := by
            refine List.mem_of_getElem? (i := j) ?_
            rw [List.getElem?_zip_eq_some]
            exact ⟨e1', ec⟩
          obtain ⟨hN, hf, hk⟩ := ck.cap _ hz i rfl
          obtain ⟨m, hn, hlo⟩ := I3.loc
          obtain ⟨u, r, lk⟩ := hlo i x v hN e2' (by rcases hk with z | z; exact .inr (.inl z); exact .inr (.inr z))
          refine ⟨u, r, .inr ⟨?_, ?_⟩⟩
          · exact relabel_free hf
          · rcases lk with ⟨z, _⟩ | ⟨_, c, hcx, hcell⟩
            · have z' : X.env.scope.names.lookup x = some .local := z
              rcases hk with q | q
              · rw [q] at z'; cases z'
              · rw [q] at z'; cases z'
            · obtain ⟨c', hc'⟩ := clOf_has (cells := X.env.cells) scope.names [] x hf
              have := subc x c' hc'
              rw [hcx] at this; cases this
              obtain ⟨ob, e, d⟩ := hcell
              rw [hs3h] at e
              exact ⟨c, hc', ob, old c ob e, d⟩
    · obtain ⟨v, ob, e', d⟩ := I3.cell x c (subc x c e)
      rw [hs3h] at e'
      exact ⟨v, ob, old c ob e', d⟩
    · refine I3.hok.fresh ?_
      rw [hs3h]; exact Nat.le_refl _
    · have hp' : p ∈ X.pn ++ pins := (List.mem_append.mp hp).elim (fun z => z) (fun z => nomatch z)
      obtain ⟨e, n, ne, nf, d⟩ := I3.pin p hp'
      rw [hs3h] at e
      refine ⟨old _ _ e, n, Nat.ne_of_lt (Heap.lt_size e), fun z => ?_, d⟩
      rcases List.mem_cons.mp (I3.stkSub _ z) with q | q
      · exact ne q
      · exact nf q
    · have := I3.hok.kept (h' := h₁) (fun b u q => old b u (by rw [← hs3h]; exact q))
      exact this b o e
    · show (cap.map _).length = N'.length
      rw [List.length_map, ck.len]
  have stat : ∀ {H' : Hp}, (∀ b ∈ fp, H' b = none) → ∀ b ∈ fp, FpOk Y [] H' b := fun {H'} hn b hb => by
    refine ⟨hn b hb, (hYok.exf b hb).1, hYok.exfs b hb, .inl hb, (hYok.exf b hb).2, fun p hp => ?_⟩
    have hp' : p ∈ X.pn ++ pins := (List.mem_append.mp hp).elim (fun z => z) (fun z => nomatch z)
    exact (f2 b hb).2.2.2.2.2 p hp'
  have st1 : tn 0 h₁ := T.keep 0 _ _ st2 fun b hb o e => old b o (old2 b o e)
  have loop : codeAny (model X.prog X.w) X.A (.compLoop (.ListComp elt [⟨tg, iter, o.toList, 0⟩] scope pos) 0 (.ref it) (.ref l) Y.env) (compPost (model X.prog X.w) X.A X.xe use Q0 (.ref l) P2.objs.size) { s2 with heap := h₁, toks := s2.toks } := by
    refine comp_loop (fun n s' => ∃ i acc σ' H', Inv Y [] σ' H' s' ∧ tn i s'.heap ∧ (∀ b ∈ fp, H' b = none) ∧ W i n acc σ' H') ?_ m0 ⟨0, [], _, H3, hYi, st1, fp3, w0⟩
    rintro n s4 ⟨i, acc, σ4, H4, I4, st4, fr4, w4⟩
    obtain ⟨hlst, q4⟩ := turn i n acc σ4 H4 w4
    rcases q4 with ⟨stop, qn⟩ | ⟨go, step⟩
    · refine thn (T.done Y rfl rfl rfl hc i [] s4 σ4 H4 Y.xe I4 (stat fr4) st4 stop) fun r s5 ⟨hr, I5⟩ => ?_
      subst hr
      obtain ⟨m, hn, _⟩ := id I5.loc
      have un : Un (frs X.stack) fp H3 H4 s3.heap s5.heap := I5.base
      have sz3 : s3.heap.objs.size ≤ P2.objs.size := by rw [hs3h]; exact Nat.le_refl _
      have IX : Inv X pins σ H4 s5 := I3.call' (ch := fp) I5.os un I5.hok I5.bare fun b hb => ⟨(f2 b hb).2.2.2.1, (f2 b hb).2.1, (f2 b hb).2.2.2.2.1, (f2 b hb).2.2.2.2.2⟩
      exact fin l P2.objs.size H4 s5 m IX qn hn (I3.fpOk sz3 I5.free)
    · refine thn (T.item Y rfl rfl rfl hc i [] s4 σ4 H4 Y.xe I4 (stat fr4) st4 go) fun r s5 ⟨u, hr, h5⟩ => ?_
      subst hr
      refine thn h5 fun _ s6 ⟨x, H6, I6, r6, y6, st6, fr6⟩ => ?_
      have I6' := I6.pinned (stat fr6) (T.obj _ _ st6)
      refine thn (hg _ _ _ _ _ _ s6 σ4 H6 x u _ I6' r6 (step x H6 y6)) fun _ s7 ⟨σ7, H7, I7, q7⟩ => ?_
      refine tst_mono (ht _ _ _ _ _ _ s7 σ7 H7 _ I7 q7) fun b s8 ⟨H8, I8, q8⟩ => ?_
      have again : ∀ {σ9 : St} {H9 : Hp} {s9 : Shared} {acc9 : List V}, Inv Y ([] ++ pinsAt fp s6.heap) σ9 H9 s9 → (∃ m', m' < n ∧ W (i + 1) m' acc9 σ9 H9) → ∃ m, m < n ∧ ∃ i acc σ' H', Inv Y [] σ' H' s9 ∧ tn i s9.heap ∧ (∀ b ∈ fp, H' b = none) ∧ W i m acc σ' H' := fun {σ9 H9 s9 acc9} I9 ⟨m', hm, w9⟩ => by
        refine ⟨m', hm, i + 1, acc9, σ9, H9, I9.unpinned, T.keep _ _ _ st6 fun b hb o e => (I9.pin (b, o) (List.mem_append_right _ (List.mem_append_right _ (mem_pinsAt hb e)))).1, fun b hb => ?_, w9⟩
        obtain ⟨o, e, d⟩ := T.obj _ _ st6 b hb
        exact (I9.pin (b, o) (List.mem_append_right _ (List.mem_append_right _ (mem_pinsAt hb e)))).2.1
      cases b with
      | false =>
        rw [if_neg Bool.false_ne_true] at q8 ⊢
        exact again I8 q8
      | true =>
        rw [if_pos rfl] at q8 ⊢
        refine thn (he _ _ _ _ _ _ s8 σ7 H8 _ I8 q8) fun yv s9 ⟨y, H9, I9, r9, hl9, hz9, q9⟩ => ?_
        refine thn (mt_append (X := Y) _ s9 σ7 H9 (.ref l) [y] (.ref l) [yv] (fun _ H' => H' = upd H9 l (.lst (acc ++ [y]))) I9 rfl (.cons r9 .nil) ⟨l, acc, y, rfl, rfl, hl9, hz9, rfl⟩) fun _ s10 ⟨_, H10, I10, _, e10⟩ => ?_
        subst e10
        exact again I10 q9
  exact codeAny_compStart_list loop (T.self X.A 0 _ _ _ st1 loop)
theorem Inv.gone {X : Cx} {pins : List (Addr × Obj)} {σ : St} {H : Hp} {s : Shared} {C : Addr} {h' : Heap} (I : Inv X pins σ H s) (f : FpOk X pins H C) (sb : Heap.SameBut C s.heap h') : Inv X pins σ H { s with heap := h' } :=
  I.turned (t' := s.toks) (fun b o hb e => (sb.2 b hb).trans e) f.1 f.2.1 f.2.2.2.1 f.2.2.2.2.1 f.2.2.2.2.2
theorem pe_lc {X : Cx} {elt tg iter : Expr} {o : Option Expr} {scope : Scope} {pos : Pos} {wi : TI} {g : TG} {tt : TT} {te : TE} {N' : List Str} {cap : List (Option Nat)}
    (hc : X.calm = true) (hi : PI X tg iter wi) (ck : CapOk X.N N' X.env.scope scope cap)
    (hg : ∀ C s₀ H₀ fp pins, PG (cxComp X N' scope C s₀ H₀ fp pins) tg g)
    (ht : ∀ C s₀ H₀ fp pins, PTo (cxComp X N' scope C s₀ H₀ fp pins) o tt)
    (he : ∀ C s₀ H₀ fp pins, PE (cxComp X N' scope C s₀ H₀ fp pins) elt te)
    (hs : ∀ x, foldedSetIterable iter X.env x = pure x := by intro _; rfl) :
    PE X (.ListComp elt [⟨tg, iter, o.toList, 0⟩] scope pos) (tLC cap wi g tt te) := by
  intro pins s σ H Q I h
  rw [eval_ListComp]
  exact lc_core (use := none) hc hi ck hg ht he hs I h fun l C H4 s5 m I5 q hn f => ⟨m, hn, fun h' sb => ⟨.ref l, H4, I5.gone f sb, rfl, q⟩⟩
theorem ps_setLC {X : Cx} {i : Nat} {y : Str} {elt tg iter : Expr} {o : Option Expr} {scope : Scope} {pos spos py : Pos} {wi : TI} {g : TG} {tt : TT} {te : TE} {N' : List Str} {cap : List (Option Nat)}
    (hN : X.N.Nodup) (hi' : X.N[i]? = some y) (hy : X.env.scope.names.lookup y = some .local) (hc : X.calm = true) (hi : PI X tg iter wi) (ck : CapOk X.N N' X.env.scope scope cap)
    (hg : ∀ C s₀ H₀ fp pins, PG (cxComp X N' scope C s₀ H₀ fp pins) tg g)
    (ht : ∀ C s₀ H₀ fp pins, PTo (cxComp X N' scope C s₀ H₀ fp pins) o tt)
    (he : ∀ C s₀ H₀ fp pins, PE (cxComp X N' scope C s₀ H₀ fp pins) elt te)
    (hs : ∀ x, foldedSetIterable iter X.env x = pure x := by intro _; rfl)
    (hsw : swapsWith (.ListComp elt [⟨tg, iter, o.toList, 0⟩] scope pos) (some (.Name y py)) spos.line X.env = pure true := by with_unfolding_all rfl) :
    PS X (.Assign [.Name y py] (.ListComp elt [⟨tg, iter, o.toList, 0⟩] scope pos) spos) (tAsg (tLC cap wi g tt te) (gName i)) := by
  intro pins s σ H D I h
  rw [exec_Assign_Name_used y py _ spos hsw]
  refine wpAny_bind (wpAny_standAt (wpAny_bind (wpAny_bind (thn (lc_core (use := some (assign (.Name y py) X.env)) (Q0 := fun _ z => SP X pins D .next z) hc hi ck hg ht he hs I h fun l C H4 s5 m I5 q hn f => ?_) fun _ z hz => wpAny_pure (wpAny_pure hz)))))
  refine wpAny_assign_Name (store_ok2 (v := .ref l) I5 hN hi' (.inl hy) rfl (fun s6 I6 ⟨a, sb, ha⟩ => ?_) (.inr hy))
  have nC : C ≠ a := by
    rcases ha with z | z
    · rw [z]; exact f.2.1
    · exact fun w => f.2.2.2.2.1 y a z w.symm
  have hn6 : s6.heap.Ns C m := hn.sameBut sb nC
  exact ⟨m, hn6, fun h' sb' => ⟨_, H4, I6.gone f sb', q⟩⟩
end L2
end
section
set_option maxHeartbeats 4000001
namespace Own
open PySem PySem.Spec PyProof.Rows
section
variable {M : Model} {prog : Program} {w : World} {A : Around} {E : Value → Shared → Prop} {s : Shared} {α : Type} {Q : α → Shared → Prop}
theorem rf {a : Addr} {o : Obj} {vs : Array Value} {x : Value} {f : Value → Sem α} (k : Nat) (ho : s.heap.get? a = some o) (hd : o.data = .fields vs) (hx : vs[k]? = some x) (h : wpAny M A (f x) Q E s) :
    wpAny M A (field (.ref a) k >>= f) Q E s := wpAny_bind (wpAny_field ho hd hx h)
theorem nx {T id : String} {B : Builtin} {it : Addr} {P : Value → Shared → Prop} (slot : Slot T "__next__" id) (ty : s.TypeIs (.ref it) T) (en : entryFor table id = some B) (ok : argsOk id ⟨[.ref it], []⟩)
    (h : wpAny (model prog w) A.in1 (B ⟨[.ref it], []⟩) (fun r s' => ∃ v, r = .done (.ret v) ∧ P v s') E s) : wpAny (model prog w) A (Builtin.SmallTypes.nextOf (.ref it)) P E s := by
  unfold Builtin.SmallTypes.nextOf; refine wpAny_bind (wpAny_callSpecial?_slot (name := "__next__") ty slot (wpAny_call_entry slot ty en (thn2 h) ok))
where
  thn2 {B' : Sem Fin} {P : Value → Shared → Prop} {A' : Around} (h : wpAny (model prog w) A' B' (fun r s' => ∃ v, r = .done (.ret v) ∧ P v s') E s) :
      wpAny (model prog w) A' B' (fun r s' => ∃ v, r = .done (.ret v) ∧ wpAny (model prog w) A (pure v) P E s') E s :=
    wpAny_mono h (fun _ _ ⟨v, e, q⟩ => ⟨v, e, wpAny_pure q⟩) fun _ _ z => z
end
theorem ends {A : Around} {E : Value → Shared → Prop} {prog : Program} {w : World} {s : Shared} {α : Type} {Q : α → Shared → Prop} (hh : A.handled = none)
    (h : ∀ h' x, (∀ b o, s.heap.get? b = some o → h'.get? b = some o) → (∃ o, h'.get? x = some o ∧ o.cls = .type "StopIteration") → E (.ref x) { s with heap := h' }) :
    wpAny (model prog w) A (Builtin.SmallTypes.stopIteration : Sem α) Q E s := by
  unfold Builtin.SmallTypes.stopIteration newExc newTuple
  refine wpAny_bind (wpAny_bind (wpAny_newObj_type ?_ (by size_fits)))
  refine wpAny_bind (wpAny_of_eq (a := Value.none) (by rfl) (wpAny_newObj_type (wpAny_raiseNew_none hh (h _ _ (fun b o e => ?_) ⟨_, Heap.get?_push_size _ rfl, rfl⟩)) (by size_fits)))
  exact Heap.get?_push_of_some _ (Heap.get?_push_of_some _ e)
def cN : Bool → String
  | true => "list_iterator"
  | false => "tuple_iterator"
abbrev RIt (b : Bool) (h : Heap) (it a : Addr) (i : Int) : Prop := h.get? it = some { cls := .type (cN b), dict := none, data := .fields #[.ref a, .int i 0], slots := #[] }
def SqO : Bool → Heap → Addr → Array Value → Prop
  | true, h, a, xs => h.IsList a xs
  | false, h, a, xs => h.IsTuple a xs
theorem SqO.ob {b : Bool} {h : Heap} {a : Addr} {xs : Array Value} (x : SqO b h a xs) : ∃ o n, h.get? a = some o ∧ o.data = .seq xs n := by
  cases b <;> (obtain ⟨o, e, _, n, d⟩ := x; exact ⟨o, n, e, d⟩)
theorem SqO.mv {b : Bool} {h h' : Heap} {a : Addr} {xs : Array Value} (x : SqO b h a xs) (k : ∀ o, h.get? a = some o → h'.get? a = some o) : SqO b h' a xs := by
  cases b <;> (obtain ⟨o, e, r⟩ := x; exact ⟨o, k o e, r⟩)
theorem SqO.ne {b b' : Bool} {h : Heap} {a it a' : Addr} {i : Int} {xs : Array Value} (x : SqO b h a xs) (y : RIt b' h it a' i) : a ≠ it := fun z => by
  obtain ⟨o, n, e, d⟩ := x.ob
  rw [z, y] at e; cases e; cases d
section
variable {prog : Program} {w : World} {A : Around} {E : Value → Shared → Prop} {s : Shared}
theorem ty {b : Bool} {it a : Addr} {i : Int} (y : RIt b s.heap it a i) : s.TypeIs (.ref it) (cN b) := ⟨_, y, rfl⟩
theorem rise_go {b : Bool} {it a : Addr} {i : Nat} {xs : Array Value} {x : Value} {P : Value → Shared → Prop} {B : Builtin} (hB : B = match b with | true => Builtin.«list_iterator.__next__» | false => Builtin.«tuple_iterator.__next__»)
    (y : RIt b s.heap it a i) (sq : SqO b s.heap a xs) (hx : xs[i]? = some x) (h : ∀ h', RIt b h' it a (i + 1) → Heap.SameBut it s.heap h' → P x { s with heap := h' }) :
    wpAny (model prog w) A (B ⟨[.ref it], []⟩) (fun r s' => ∃ v, r = .done (.ret v) ∧ P v s') E s := by
  obtain ⟨o, n, e, d⟩ := sq.ob
  have fin : wpAny (model prog w) A (match xs[(i : Int).toNat]? with
      | some x => (do setField (.ref it) 1 (rawInt ((i : Int) + 1)); ret x : Sem Fin)
      | none => Builtin.SmallTypes.stopIteration) (fun r s' => ∃ v, r = .done (.ret v) ∧ P v s') E s := by
    rw [Int.toNat_natCast, hx]
    exact wpAny_bind (wpAny_setField_rec y (show 1 < 2 by decide) fun h' y' sb => wpAny_pure ⟨x, rfl, h h' y' sb⟩)
  rw [Int.toNat_natCast, hx] at fin
  subst hB
  cases b <;>
  · refine rf 0 y rfl rfl (PyIte (show ¬ ((Value.ref a == Value.none) = true) from Bool.false_ne_true) (rf 1 y rfl rfl (wpAny_bind (wpAny_seqItems e d ?_))))
    simp only [Int.toNat_natCast, hx]; exact fin
where
  PyIte {c : Prop} [Decidable c] {α : Type} {a b : Sem α} {M : Model} {A : Around} {Q : α → Shared → Prop} {E : Value → Shared → Prop} {s : Shared} (hc : ¬ c) (h : wpAny M A b Q E s) : wpAny M A (if c then a else b) Q E s := by
    rw [if_neg hc]; exact h
theorem rise_stop {b : Bool} {it a : Addr} {i : Nat} {xs : Array Value} {Q : Fin → Shared → Prop} {B : Builtin} (hB : B = match b with | true => Builtin.«list_iterator.__next__» | false => Builtin.«tuple_iterator.__next__»)
    (hh : A.handled = none) (y : RIt b s.heap it a i) (sq : SqO b s.heap a xs) (hx : xs[i]? = none)
    (h : ∀ h' x, (∀ c o, c ≠ it → s.heap.get? c = some o → h'.get? c = some o) → (∃ o, h'.get? x = some o ∧ o.cls = .type "StopIteration") → E (.ref x) { s with heap := h' }) :
    wpAny (model prog w) A (B ⟨[.ref it], []⟩) Q E s := by
  obtain ⟨o, n, e, d⟩ := sq.ob
  subst hB
  cases b <;>
  · refine rf 0 y rfl rfl (rise_go.PyIte (show ¬ ((Value.ref a == Value.none) = true) from Bool.false_ne_true) (rf 1 y rfl rfl (wpAny_bind (wpAny_seqItems e d ?_))))
    simp only [Int.toNat_natCast, hx]; refine wpAny_bind (wpAny_rule (wpAny_bind (wpAny_setField_rec y (show 0 < 2 by decide) fun h1 _ sb => ?_)))
    exact ends hh fun h2 x k z => h h2 x (fun c o hc q => k c o ((sb.2 c hc).trans q)) z
theorem next_go {b : Bool} {it a : Addr} {i : Nat} {xs : Array Value} {x : Value} {P : Value → Shared → Prop} (y : RIt b s.heap it a i) (sq : SqO b s.heap a xs) (hx : xs[i]? = some x)
    (h : ∀ h', RIt b h' it a (i + 1) → Heap.SameBut it s.heap h' → P x { s with heap := h' }) : wpAny (model prog w) A (Builtin.SmallTypes.nextOf (.ref it)) P E s := by
  cases b
  · exact nx F.slot_tuple_iterator_next (ty y) F.entry_tuple_iterator_next (F.args_tuple_iterator_next_1 _) (rise_go (b := false) rfl y sq hx h)
  · exact nx slot_listiter_next (ty y) entry_listiter_next (args_listiter_next _) (rise_go (b := true) rfl y sq hx h)
theorem next_stop {b : Bool} {it a : Addr} {i : Nat} {xs : Array Value} {P : Value → Shared → Prop} (hh : A.handled = none) (y : RIt b s.heap it a i) (sq : SqO b s.heap a xs) (hx : xs[i]? = none)
    (h : ∀ h' x, (∀ c o, c ≠ it → s.heap.get? c = some o → h'.get? c = some o) → (∃ o, h'.get? x = some o ∧ o.cls = .type "StopIteration") → E (.ref x) { s with heap := h' }) :
    wpAny (model prog w) A (Builtin.SmallTypes.nextOf (.ref it)) P E s := by
  have inner : A.in1.handled = none := hh
  cases b
  · exact nx F.slot_tuple_iterator_next (ty y) F.entry_tuple_iterator_next (F.args_tuple_iterator_next_1 _) (rise_stop (b := false) rfl inner y sq hx h)
  · exact nx slot_listiter_next (ty y) entry_listiter_next (args_listiter_next _) (rise_stop (b := true) rfl inner y sq hx h)
theorem iter_of {b : Bool} {a : Addr} {xs : Array Value} {P : Value → Shared → Prop} (sq : SqO b s.heap a xs)
    (h : P (.ref s.heap.objs.size) { s with heap := s.heap.push { cls := .type (cN b), data := .fields #[.ref a, .int 0 0] } }) : wpAny (model prog w) A (pyIter (.ref a)) P E s := by
  cases b
  · exact wpAny_pyIter_tuple sq h
  · exact wpAny_pyIter_list sq h
end
theorem draws {prog : Program} {w : World} {A : Around} (hh : A.handled = none) (b : Bool) (it a : Addr) (xs : Array Value) (hne : a ≠ it) :
    Draws prog w A it [it, a] xs.size (fun i v => xs[i]? = some v) (fun i h => RIt b h it a i ∧ SqO b h a xs) :=
  ⟨fun _ _ st => ⟨_, st.1⟩, fun _ _ _ st k => ⟨k it List.mem_cons_self _ st.1, st.2.mv fun o e => k a (List.mem_cons_of_mem _ List.mem_cons_self) o e⟩,
    fun i s Q E hi st k => next_go st.1 st.2 (Array.getElem?_eq_getElem hi) fun h' y sb => k _ h' s.toks (Array.getElem?_eq_getElem hi) ⟨y, st.2.mv fun o e => (sb.2 a hne).trans e⟩ sb,
    fun s Q E st k => next_stop hh st.1 st.2 (by simp) fun h' x kk z => k h' x (fun c o hc q => kk c o hc q) z⟩
theorem enum_new (b : Bool) (a : Addr) (o : Obj) (xs : Array Value) :
    Meets (Builtin.«enumerate.__new__» ⟨[.type "enumerate", .ref a], []⟩) (fun _ R s => s.heap.get? a = some o ∧ SqO b s.heap a xs ∧
      R (.ok (.ret (.ref (s.heap.push { cls := .type (cN b), data := .fields #[.ref a, .int 0 0] }).objs.size)))
        { s with heap := (s.heap.push { cls := .type (cN b), data := .fields #[.ref a, .int 0 0] }).push { cls := .type "enumerate", data := .fields #[.none, .bool false, .ref s.heap.objs.size, rawInt 0, .none, .none] } }) :=
  .of_wp fun prog w A R s h => by
    obtain ⟨hp, g, d, tk, os⟩ := s; obtain ⟨ho, sq, h⟩ := h
    have sub := sub_enumerate
    have sq' : SqO b (Shared.heap ⟨hp, g, d, tk, os⟩) a xs := sq
    wp_walk using AutoSeq1.wpAny_loadPart' ho; refine wpAny_stack_any fun st => wpAny_pure ?_
    split
    case h_1 c _ _ _ _ _ =>
      cases (c == Value.type "enumerate") <;> (wp_walk using AutoSeq1.wpAny_loadPart' ho, iter_of sq'; exact ⟨_, rfl, h⟩)
    all_goals (wp_walk using AutoSeq1.wpAny_loadPart' ho, iter_of sq'; exact ⟨_, rfl, h⟩)

theorem call_enum {prog : Program} {w : World} {A : Around} {E : Value → Shared → Prop} {s : Shared} {b : Bool} {a : Addr} {xs : Array Value} {P : Value → Shared → Prop} (sq : SqO b s.heap a xs)
    (h : ∀ h' e it, s.heap.objs.size ≤ e → s.heap.objs.size ≤ it → e ≠ it → IsEnum h' e it 0 .none → RIt b h' it a 0 → (∀ c o, s.heap.get? c = some o → h'.get? c = some o) → P (.ref e) { s with heap := h' }) :
    wpAny (model prog w) A (call (.type "enumerate") [.ref a]) P E s := by
  obtain ⟨o, n, ho, _⟩ := sq.ob
  refine callType_new F.called_enumerate (by decide) (F.typeCall_enumerate_1 _) (F.newCall_enumerate_1 _) (fun obj => F.args_object_init_2 obj _) F.entry_enumerate_new (enum_new b a o xs) ⟨ho, sq, ⟨_, Heap.get?_push_size _ rfl, rfl⟩, ?_⟩
  refine h _ _ _ ?_ (Nat.le_refl _) ?_ (Heap.get?_push_size _ rfl) (Heap.get?_push_of_some _ (Heap.get?_push_size _ rfl)) fun c o e => Heap.get?_push_of_some _ (Heap.get?_push_of_some _ e)
  · rw [Heap.size_push]; exact Nat.le_succ _
  · rw [Heap.size_push]; exact Nat.succ_ne_self _
structure Sep (z TI TO i1 i2 : Addr) (f1 f2 : List Addr) : Prop where
  all : [z, TI, TO, i1, i2].Nodup
  z1 : z ∉ f1
  t1 : TO ∉ f1
  o1 : i2 ∉ f1
  z2 : z ∉ f2
  t2 : TO ∉ f2
  o2 : i1 ∉ f2
section
variable {prog : Program} {w : World} {A : Around} {E : Value → Shared → Prop} {s : Shared} {z TI TO i1 i2 : Addr} {f1 f2 : List Addr} {n1 n2 k : Nat} {P1 P2 : Nat → Value → Prop} {S1 S2 : Nat → Heap → Prop} {a b : Value}
theorem zip_step (S : Sep z TI TO i1 i2 f1 f2) (D1 : Draws prog w A i1 f1 n1 P1 S1) (D2 : Draws prog w A i2 f2 n2 P2 S2) {Q : Value → Shared → Prop}
    (hz : IsZip s.heap z TI TO .none) (hI : IsPair s.heap TI (.ref i1) (.ref i2)) (hO : IsPair s.heap TO a b) (d1 : S1 k s.heap) (d2 : S2 k s.heap) (l1 : k < n1) (l2 : k < n2)
    (h : ∀ x y h' tk, P1 k x → P2 k y → IsZip h' z TI TO (rawInt s.heap.objs.size) → IsPair h' TO x y → S1 (k + 1) h' → S2 (k + 1) h' → IsPair h' s.heap.objs.size x y →
      (∀ c o, c ∉ [z, TO, i1, i2] → s.heap.get? c = some o → h'.get? c = some o) → Q (.ref s.heap.objs.size) { s with heap := h', toks := tk }) :
    wpAny (model prog w) A (Builtin.«zip.__next__» ⟨[.ref z], []⟩) (fun r s' => ∃ v, r = .done (.ret v) ∧ Q v s') E s := by
  have nd := S.all
  simp only [List.nodup_cons, List.mem_cons, List.not_mem_nil, or_false, not_or] at nd
  obtain ⟨⟨zI, zO, z1, z2⟩, ⟨IO, I1, I2⟩, ⟨O1, O2⟩, n12, _⟩ := nd
  refine rf 2 hz rfl rfl (rf 3 hz rfl rfl (wpAny_bind (wpAny_seqItems hI rfl (wpAny_bind (rf 0 hz rfl rfl (wpAny_pure ?_))))))
  simp only [if_true]
  refine wpAny_bind (wpAny_rule (rf 4 hz rfl rfl (wpAny_bind (wpAny_setField_rec hz (show 0 < 5 by decide) fun ha za sa => wpAny_bind ?_))))
  have za' : IsZip ha z TI TO .ellipsis := za; simp only [List.zipIdx_cons, List.zipIdx_nil, List.forIn_cons, List.forIn_nil]
  refine wpAny_bind (wpAny_bind (wpAny_onRaise (wpAny_bind (D1.item k _ _ _ l1 (D1.frame _ _ _ d1 fun c hc o e => (sa.2 c fun q => S.z1 (q ▸ hc)).trans e) fun x hb tb px db sb => wpAny_pure ?_))))
  have Ob : IsPair hb TO a b := (sb.2 TO O1).trans ((sa.2 TO (Ne.symm zO)).trans hO)
  refine wpAny_bind (wpAny_seqItems Ob rfl (wpAny_bind (wpAny_updateSeq_pair Ob fun hc Oc sc => wpAny_bind (wpAny_letGo (wpAny_pure ?_)))))
  have Oc' : IsPair hc TO x b := Oc
  have st2 : S2 k hc := D2.frame _ _ _ d2 fun c hm o e => (sc.2 c fun q => S.t2 (q ▸ hm)).trans ((sb.2 c fun q => S.o2 (q ▸ hm)).trans ((sa.2 c fun q => S.z2 (q ▸ hm)).trans e))
  refine wpAny_bind (wpAny_bind (wpAny_onRaise (wpAny_bind (D2.item k _ _ _ l2 st2 fun y hd td py dd sd => wpAny_pure ?_))))
  have Od : IsPair hd TO x b := (sd.2 TO O2).trans Oc'
  refine wpAny_bind (wpAny_seqItems Od rfl (wpAny_bind (wpAny_updateSeq_pair Od fun he Oe se => wpAny_bind (wpAny_letGo (wpAny_pure (wpAny_pure ?_))))))
  have Oe' : IsPair he TO x y := Oe
  refine wpAny_bind (wpAny_seqItems Oe' rfl (wpAny_bind (wpAny_newTuple (wpAny_bind ?_))))
  have sz : he.objs.size = s.heap.objs.size := by rw [se.1, sd.1, sc.1, sb.1, sa.1]
  have ze : IsZip he z TI TO .ellipsis := (se.2 z zO).trans ((sd.2 z z2).trans ((sc.2 z zO).trans ((sb.2 z z1).trans za')))
  have zn : he.objs.size ≠ z := Nat.ne_of_gt (Heap.lt_size ze)
  unfold Builtin.SmallTypes.ownedTupleHandOut; refine wpAny_bind (wpAny_setField_rec (Heap.get?_push_of_some _ ze) (show 0 < 5 by decide) fun hf zf sf => wpAny_setField_rec zf (show 1 < 5 by decide) fun hg zg sg => wpAny_pure ⟨_, rfl, ?_⟩)
  have up : ∀ c o, c ≠ z → he.get? c = some o → hg.get? c = some o := fun c o q e => (sg.2 c q).trans ((sf.2 c q).trans (Heap.get?_push_of_some _ e))
  have new : IsPair hg he.objs.size x y := (sg.2 _ zn).trans ((sf.2 _ zn).trans (Heap.get?_push_size _ rfl))
  have zg' : IsZip hg z TI TO (rawInt he.objs.size) := zg
  rw [sz] at new zg'
  show Q (.ref he.objs.size) _
  rw [sz]
  refine h x y hg td px py zg' (up _ _ (Ne.symm zO) Oe') ?_ ?_ new fun c o hc e => ?_
  · exact D1.frame _ _ _ db fun c hm o e => up c o (fun q => S.z1 (q ▸ hm)) ((se.2 c fun q => S.t1 (q ▸ hm)).trans ((sd.2 c fun q => S.o1 (q ▸ hm)).trans ((sc.2 c fun q => S.t1 (q ▸ hm)).trans e)))
  · exact D2.frame _ _ _ dd fun c hm o e => up c o (fun q => S.z2 (q ▸ hm)) ((se.2 c fun q => S.t2 (q ▸ hm)).trans e)
  · simp only [List.mem_cons, List.not_mem_nil, or_false, not_or] at hc
    obtain ⟨c1, c2, c3, c4⟩ := hc
    exact up c o c1 ((se.2 c c2).trans ((sd.2 c c4).trans ((sc.2 c c2).trans ((sb.2 c c3).trans ((sa.2 c c1).trans e)))))
end
end Own
end
section
set_option maxHeartbeats 4000001
namespace Own
open PySem PySem.Spec PyProof.Rows
section
variable {prog : Program} {w : World} {A : Around} {E : Value → Shared → Prop} {s : Shared} {z TI TO i1 i2 : Addr} {f1 f2 : List Addr} {n1 n2 k : Nat} {P1 P2 : Nat → Value → Prop} {S1 S2 : Nat → Heap → Prop} {a b : Value}
theorem zip_stop (S : Sep z TI TO i1 i2 f1 f2) (D1 : Draws prog w A i1 f1 n1 P1 S1) {Q : Fin → Shared → Prop} (hz : IsZip s.heap z TI TO .none) (hI : IsPair s.heap TI (.ref i1) (.ref i2)) (d1 : S1 n1 s.heap)
    (h : ∀ h' x, (∀ c o, c ∉ [z, TO, i1, i2] → s.heap.get? c = some o → h'.get? c = some o) → (∃ o, h'.get? x = some o ∧ o.cls = .type "StopIteration") → E (.ref x) { s with heap := h' }) : wpAny (model prog w) A (Builtin.«zip.__next__» ⟨[.ref z], []⟩) Q E s := by
  have nd := S.all
  simp only [List.nodup_cons, List.mem_cons, List.not_mem_nil, or_false, not_or] at nd
  obtain ⟨⟨zI, zO, z1, z2⟩, ⟨IO, I1, I2⟩, ⟨O1, O2⟩, n12, _⟩ := nd
  refine rf 2 hz rfl rfl (rf 3 hz rfl rfl (wpAny_bind (wpAny_seqItems hI rfl (wpAny_bind (rf 0 hz rfl rfl (wpAny_pure ?_))))))
  simp only [if_true]
  refine wpAny_bind (wpAny_rule (rf 4 hz rfl rfl (wpAny_bind (wpAny_setField_rec hz (show 0 < 5 by decide) fun ha za sa => wpAny_bind ?_))))
  have za' : IsZip ha z TI TO .ellipsis := za; simp only [List.zipIdx_cons, List.zipIdx_nil, List.forIn_cons, List.forIn_nil]
  refine wpAny_bind (wpAny_bind (wpAny_onRaise (wpAny_bind (D1.done _ _ _ (D1.frame _ _ _ d1 fun c hc o e => (sa.2 c fun q => S.z1 (q ▸ hc)).trans e) fun hb x kb ⟨ox, ex, cx⟩ => ?_))))
  have zb : IsZip hb z TI TO .ellipsis := kb z _ z1 za'
  have xz : x ≠ z := fun q => by rw [q, zb] at ex; cases ex; exact absurd (show Value.type "zip" = Value.type "StopIteration" from cx) (by decide)
  refine wpAny_setField_rec zb (show 0 < 5 by decide) fun hc _ sc => h hc x (fun c o hm e => ?_) ⟨ox, (sc.2 x xz).trans ex, cx⟩
  simp only [List.mem_cons, List.not_mem_nil, or_false, not_or] at hm
  exact (sc.2 c hm.1).trans (kb c o hm.2.2.1 ((sa.2 c hm.1).trans e))
end
theorem zip_new (b1 b2 : Bool) (a1 a2 : Addr) (xs ys : Array Value) : Meets (Builtin.«zip.__new__» ⟨[.type "zip", .ref a1, .ref a2], []⟩) (fun _ R s => SqO b1 s.heap a1 xs ∧ SqO b2 s.heap a2 ys ∧
    ∀ h' z, (∃ TI TO i1 i2, [z, TI, TO, i1, i2].Nodup ∧ (∀ c ∈ [z, TI, TO, i1, i2], s.heap.objs.size ≤ c) ∧ IsZip h' z TI TO .none ∧ IsPair h' TI (.ref i1) (.ref i2) ∧ IsPair h' TO .none .none ∧ RIt b1 h' i1 a1 0 ∧ RIt b2 h' i2 a2 0) →
      (∀ c o, s.heap.get? c = some o → h'.get? c = some o) → R (.ok (.ret (.ref z))) { s with heap := h' }) :=
  .of_wp fun prog w A R s h => by
    obtain ⟨hp, g, d, tk, os⟩ := s; obtain ⟨q1, q2, h⟩ := h
    have sub := sub_zip
    have r1 : SqO b1 (Shared.heap ⟨hp, g, d, tk, os⟩) a1 xs := q1
    have r2 : SqO b2 (Shared.heap ⟨hp.push { cls := .type (cN b1), data := .fields #[.ref a1, .int 0 0] }, g, d, tk, os⟩) a2 ys := q2.mv fun o e => Heap.get?_push_of_some _ e
    wp_walk using iter_of r1, iter_of r2
    refine ⟨_, rfl, h _ _ ⟨_, _, _, _, ?_, ?_, Heap.get?_push_size _ rfl, Heap.get?_push_of_some _ (Heap.get?_push_of_some _ (Heap.get?_push_size _ rfl)), Heap.get?_push_of_some _ (Heap.get?_push_size _ rfl),
      Heap.get?_push_of_some _ (Heap.get?_push_of_some _ (Heap.get?_push_of_some _ (Heap.get?_push_of_some _ (Heap.get?_push_size _ rfl)))), Heap.get?_push_of_some _ (Heap.get?_push_of_some _ (Heap.get?_push_of_some _ (Heap.get?_push_size _ rfl)))⟩ fun c o e => ?_⟩
    · simp only [Heap.size_push, List.nodup_cons, List.mem_cons, List.not_mem_nil, or_false, not_or]
      simp <;> lia
    · simp only [Heap.size_push, List.mem_cons, List.not_mem_nil, or_false]
      intro c hc
      have : hp.objs.size ≤ c := by lia
      exact this
    · exact Heap.get?_push_of_some _ (Heap.get?_push_of_some _ (Heap.get?_push_of_some _ (Heap.get?_push_of_some _ (Heap.get?_push_of_some _ e))))
end Own
end
section
set_option maxHeartbeats 4000001
namespace L2
open PySem PySem.Spec PyProof.Rows Own
section
variable {X : Cx} {pins : List (Addr × Obj)} {σ : St} {H : Hp} {s : Shared} {h' : Heap}
theorem Inv.spunN {fp : List Addr} {T : Addr} {o : HO} {t' : Nat} (I : Inv X pins σ H s) (k : ∀ b o, b ∉ fp → s.heap.get? b = some o → h'.get? b = some o) (hf : ∀ b ∈ fp, FpOk X pins H b) (hT : s.heap.objs.size ≤ T)
    (new : ObjOk X.prog X.w (upd H T o) h' T o) : Inv X pins σ (upd H T o) { s with heap := h', toks := t' } := by
  have hn : H T = none := I.hok.fresh hT
  have neT : ∀ b u, s.heap.get? b = some u → b ≠ T := fun b u e => Nat.ne_of_lt (Nat.lt_of_lt_of_le (Heap.lt_size e) hT)
  have nfp : ∀ b u, H b = some u → b ∉ fp := fun b u e hb => by rw [(hf b hb).1] at e; cases e
  refine I.step (g' := s.gens) (d' := s.drawn) (ch := fp) (fun b hb => ?_) (fun b o _ _ hc e _ => k b o hc e) (fun b o _ _ hc e _ => ⟨o.slots, k b o hc e⟩) (fun b o _ e n => by rw [upd_ne (neT b o e)]; exact n)
    (fun b o hc e => ⟨o, k b o hc e⟩) (fun b xs e => by rw [upd_ne (ne_of_none e hn)]; exact e) (fun b o u e => by rw [upd_ne (ne_of_none e hn)]; exact e) (fun b ps e => ⟨#[], by rw [upd_ne (ne_of_none e hn), e]; simp⟩) (fun m hm => ?_) (fun b u e => ?_) I.bare
  · obtain ⟨f0, f1, f2, f3, f4, f5⟩ := hf b hb
    exact ⟨f3, f1, f4, f5⟩
  · obtain ⟨o, es, ep, ho, r⟩ := hm
    exact ⟨o, es, ep, k _ o (fun hb => (hf _ hb).2.1 rfl) ho, r⟩
  · by_cases hb : b = T
    · subst hb; rw [upd_same] at e; cases e; exact new
    · rw [upd_ne hb] at e
      refine (I.hok b u e).stay (fun c v hc q => k c v ?_ q) (fun c q => by rw [upd_ne (ne_of_none q hn)]; exact q) fun c xs q => by rw [upd_ne (ne_of_none q hn)]; exact q
      rcases hc with z | z
      · rw [z]; exact nfp b u e
      · exact nfp c _ z
theorem Inv.spun {fp : List Addr} {t' : Nat} (I : Inv X pins σ H s) (k : ∀ b o, b ∉ fp → s.heap.get? b = some o → h'.get? b = some o) (hf : ∀ b ∈ fp, FpOk X pins H b) : Inv X pins σ H { s with heap := h', toks := t' } := by
  have nfp : ∀ b u, H b = some u → b ∉ fp := fun b u e hb => by rw [(hf b hb).1] at e; cases e
  refine I.step (g' := s.gens) (d' := s.drawn) (ch := fp) (fun b hb => ?_) (fun b o _ _ hc e _ => k b o hc e) (fun b o _ _ hc e _ => ⟨o.slots, k b o hc e⟩) (fun b o _ e n => n)
    (fun b o hc e => ⟨o, k b o hc e⟩) (fun b xs e => e) (fun b o u e => e) (fun b ps e => ⟨#[], by rw [e]; simp⟩) (fun m hm => ?_) (fun b u e => ?_) I.bare
  · obtain ⟨f0, f1, f2, f3, f4, f5⟩ := hf b hb
    exact ⟨f3, f1, f4, f5⟩
  · obtain ⟨o, es, ep, ho, r⟩ := hm
    exact ⟨o, es, ep, k _ o (fun hb => (hf _ hb).2.1 rfl) ho, r⟩
  · refine (I.hok b u e).stay (fun c v hc q => k c v ?_ q) (fun c q => q) fun c xs q => q
    rcases hc with z | z
    · rw [z]; exact nfp b u e
    · exact nfp c _ z
end
def SqB : Bool → PySem.W.Frag → Hp → Addr → List V → Prop
  | true, K, H, a, xs => SqL K H a xs
  | false, K, H, a, xs => SqT K H a xs
section
variable {X : Cx} {pins : List (Addr × Obj)} {σ : St} {H : Hp} {s : Shared} {a c : Addr} {xs ys : List V} {b : Bool}
theorem Inv.sq (I : Inv X pins σ H s) (h : SqB b X.K H a xs) : ∃ its : List Value, Vals xs its ∧ SqO b s.heap a its.toArray := by
  cases b
  · obtain ⟨its, r, p, z⟩ := I.tuple h
    exact ⟨its, r, p⟩
  · obtain ⟨its, r, p, z⟩ := I.list h
    exact ⟨its, r, p.isList⟩
theorem Inv.sq_inj (I : Inv X pins σ H s) (h : SqB b X.K H a xs) (h' : SqB b X.K H a ys) : xs = ys := by
  cases b
  · exact I.tuple_inj h h'
  · exact I.list_inj h h'
theorem Inv.sq_ne (I : Inv X pins σ H s) (h : SqB b X.K H a xs) (f : FpOk X pins H c) : c ≠ a := by
  rintro rfl
  have inK : ∀ o, X.K.lookup c = some o → False := fun o e => by
    have e1 := I.ok.mod.kin c o e
    rcases f.2.2.2.1 with z | z
    · exact I.ok.noex c o e1 z
    · exact absurd (Nat.lt_of_lt_of_le (Heap.lt_size e1) (Nat.le_trans I.ok.bsz z)) (Nat.lt_irrefl _)
  cases b <;>
  · rcases h with (h | ⟨o, h⟩) | ⟨o, _, _, e, _⟩
    · rw [f.1] at h; cases h
    · rw [f.1] at h; cases h
    · exact inK o e
end
def Pr (v u : V) (H : Hp) (x : V) (H' : Hp) : Prop := ∃ T, H T = none ∧ x = .ref T ∧ H' = upd H T (.tup [v, u])
theorem pair_ok {P : Program} {w : World} {H : Hp} {h : Heap} {T : Addr} {v u : V} {a b : Value} (e : IsPair h T a b) (rv : RelV v a) (ru : RelV u b) : ObjOk P w (upd H T (.tup [v, u])) h T (.tup [v, u]) :=
  ⟨show 2 ≤ sizeLine by decide, [a, b], .cons rv (.cons ru .nil), ⟨_, e, rfl, _, rfl, rfl⟩⟩
def Ite (K : PySem.W.Frag) (b : Bool) (a : Addr) : It :=
  ⟨fun i H => ∃ xs x, SqB b K H a xs ∧ xs[i]? = some x, fun i H x H' => ∃ y, (∀ xs, SqB b K H a xs → xs[i]? = some y) ∧ Pr (.int i) y H x H', fun i H => ∃ xs, SqB b K H a xs ∧ xs.length = i⟩
theorem turn_enum {P : Program} {w : World} {K : PySem.W.Frag} {es : List Expr} {k1} {p1 : Pos} (b : Bool) (a e it : Addr) (hne : e ≠ it) : Turn P w K (.Tuple es k1 p1) (Ite K b a) [e, it] e (fun i h => (∃ old, IsEnum h e it i old) ∧ RIt b h it a i) where
  mem := List.mem_cons_self
  obj := fun i h ⟨⟨old, he⟩, hi⟩ c hc => by
    rcases List.mem_cons.mp hc with q | q
    · rw [q]; exact ⟨_, he, fun v z => by cases z⟩
    · rw [List.mem_singleton.mp q]; exact ⟨_, hi, fun v z => by cases z⟩
  keep := fun i h h' ⟨⟨old, he⟩, hi⟩ kk => ⟨⟨old, kk e (by simp) _ he⟩, kk it (by simp) _ hi⟩
  item := by
    intro X hP hw hK hc i pins s σ H E I hf ⟨⟨old, he⟩, hi⟩ ⟨xs, x, hq, hx⟩
    subst hP hw hK
    obtain ⟨its, rv, p⟩ := I.sq hq
    obtain ⟨u, hu, ru⟩ := rv.get hx
    have hlt : i < its.toArray.size := by simpa using (List.getElem?_eq_some_iff.mp hu).1
    refine wpAny_pyNext_enum_itemD (draws (prog := X.prog) (w := X.w) (A := X.A.in1) (I.ok.hd hc) b it a its.toArray (p.ne hi)) he ⟨hi, p⟩ hlt hne (by simp [hne, I.sq_ne hq (hf e (by simp))]) fun v h1 tk hv ho hs hT _ hk => ?_
    obtain rfl : u = v := Option.some.inj (hu.symm.trans (by simpa using hv))
    refine ⟨_, rfl, wpAny_letOwnedTupleGo_enum ho fun h2 he2 s2 => ?_⟩
    have nT : s.heap.objs.size ≠ e := Nat.ne_of_gt (Heap.lt_size he)
    have nI : s.heap.objs.size ≠ it := Nat.ne_of_gt (Heap.lt_size hi)
    refine ⟨.ref s.heap.objs.size, _, I.spunN (fp := [e, it]) (fun c o hm q => ?_) hf (Nat.le_refl _) (pair_ok (v := .int i) (u := x) ((s2.2 _ nT).trans hT) ⟨tk, rfl⟩ ru), rfl, ⟨x, fun ys hy => by rw [I.sq_inj hy hq]; exact hx, _, I.fresh, rfl, rfl⟩, ⟨⟨_, he2⟩, (s2.2 it (Ne.symm hne)).trans hs.1⟩, fun c hm => ?_⟩
    · have c1 : c ≠ e := fun z => hm (by simp [z])
      exact (s2.2 c c1).trans (hk c o c1 (fun z => hm (by simp [z])) q)
    · rw [upd_ne, (hf c hm).1]
      rintro rfl
      rcases List.mem_cons.mp hm with z | z
      · exact nT z
      · exact nI (List.mem_singleton.mp z)
  done := by
    intro X hP hw hK hc i pins s σ H E I hf ⟨⟨old, he⟩, hi⟩ ⟨xs, hq, hx⟩
    subst hP hw hK
    obtain ⟨its, rv, p⟩ := I.sq hq
    have hz : i = its.toArray.size := by rw [List.size_toArray, ← rv.length, hx]
    refine wpAny_pyNext_enum_endD (draws (prog := X.prog) (w := X.w) (A := X.A.in1) (I.ok.hd hc) b it a its.toArray (p.ne hi)) he ⟨by rw [← hz]; exact hi, p⟩ fun h' eb => ⟨rfl, I.spun (t' := s.toks) (fp := [e, it]) (fun c o hm q => eb c o (fun z => hm (by simp [z])) q) hf⟩
  self := fun _ _ _ _ _ ⟨⟨_, he⟩, _⟩ h => wpAny_pyIter_enum he h
def iEnum (K : PySem.W.Frag) (b : Bool) (ta : TA) : TI := fun σ H R => ta σ H fun vs H1 => ∃ a xs, vs = [.ref a] ∧ SqB b K H1 a xs ∧ R (Ite K b a) H1
theorem pi_enum {X : Cx} {a : Expr} {ta : TA} {p pos p1 : Pos} {es : List Expr} {k1} (b : Bool) (hg : Gl X "enumerate") (hm : X.mg "enumerate" = none) (ha : PA X [a] ta) (hs : starEach [a] X.env = [(false, eval a X.env)] := by rfl) :
    PI X (.Tuple es k1 p1) (.Call (.Name "enumerate" p) [a] [] pos) (iEnum X.K b ta) := by
  intro pins s σ H R I h
  refine Call_ (ld_blt I hg hm (u := .type "enumerate") (by rfl) (PyProof.Rows.callWith_type1 (thn (ha pos pins s σ H _ I h) fun us s1 ⟨vs, H1, I1, r1, q1⟩ => ?_) hs rfl))
  obtain ⟨a', xs, rfl, hq, q⟩ := q1
  obtain ⟨u, rfl, ru⟩ := r1.one
  cases ru
  obtain ⟨its, rv, pl⟩ := I1.sq hq
  refine call_enum pl fun h' e it l1 l2 ne he hi hk => wpAny_pyIter_enum he ⟨_, [e, it], _, _, H1, rfl, I1.kept (t' := s1.toks) hk, turn_enum b a' e it ne, ⟨⟨_, he⟩, hi⟩, fun c hc => ?_, q⟩
  have hc' : s1.heap.objs.size ≤ c := by
    rcases List.mem_cons.mp hc with z | z
    · rw [z]; exact l1
    · rw [List.mem_singleton.mp z]; exact l2
  exact I1.fpOk hc' (I1.hok.fresh hc')
def Itz (K : PySem.W.Frag) (b1 b2 : Bool) (a1 a2 : Addr) : It :=
  ⟨fun i H => ∃ xs ys x y, SqB b1 K H a1 xs ∧ SqB b2 K H a2 ys ∧ xs[i]? = some x ∧ ys[i]? = some y, fun i H v H' => ∃ x y, (∀ xs, SqB b1 K H a1 xs → xs[i]? = some x) ∧ (∀ ys, SqB b2 K H a2 ys → ys[i]? = some y) ∧ Pr x y H v H',
   fun i H => ∃ xs, SqB b1 K H a1 xs ∧ xs.length = i⟩
theorem turn_zip {P : Program} {w : World} {K : PySem.W.Frag} {es : List Expr} {k1} {p1 : Pos} (b1 b2 : Bool) (a1 a2 z TI TO i1 i2 : Addr) (nd : [z, TI, TO, i1, i2].Nodup) :
    Turn P w K (.Tuple es k1 p1) (Itz K b1 b2 a1 a2) [z, TI, TO, i1, i2] z (fun i h => IsZip h z TI TO .none ∧ IsPair h TI (.ref i1) (.ref i2) ∧ (∃ a b, IsPair h TO a b) ∧ RIt b1 h i1 a1 i ∧ RIt b2 h i2 a2 i) where
  mem := List.mem_cons_self
  obj := fun i h ⟨hz, hI, ⟨a, b, hO⟩, h1, h2⟩ c hc => by
    simp only [List.mem_cons, List.not_mem_nil, or_false] at hc
    rcases hc with rfl | rfl | rfl | rfl | rfl
    · exact ⟨_, hz, fun v q => by cases q⟩
    · exact ⟨_, hI, fun v q => by cases q⟩
    · exact ⟨_, hO, fun v q => by cases q⟩
    · exact ⟨_, h1, fun v q => by cases q⟩
    · exact ⟨_, h2, fun v q => by cases q⟩
  keep := fun i h h' ⟨hz, hI, ⟨a, b, hO⟩, h1, h2⟩ kk => ⟨kk z (by simp) _ hz, kk TI (by simp) _ hI, ⟨a, b, kk TO (by simp) _ hO⟩, kk i1 (by simp) _ h1, kk i2 (by simp) _ h2⟩
  item := by
    intro X hP hw hK hc i pins s σ H E I hf ⟨hz, hI, ⟨a, b, hO⟩, h1, h2⟩ ⟨xs, ys, x, y, q1, q2, hx, hy⟩
    subst hP hw hK
    obtain ⟨u1, r1, p1⟩ := I.sq q1
    obtain ⟨u2, r2, p2⟩ := I.sq q2
    obtain ⟨v1, e1, rx⟩ := r1.get hx
    obtain ⟨v2, e2, ry⟩ := r2.get hy
    have nd' := nd
    simp only [List.nodup_cons, List.mem_cons, List.not_mem_nil, or_false, not_or] at nd'
    obtain ⟨⟨zI, zO, z1, z2⟩, ⟨IO, I1, I2⟩, ⟨O1, O2⟩, n12, _⟩ := nd'
    have na1 : ∀ c ∈ [z, TI, TO, i1, i2], c ≠ a1 := fun c hm => I.sq_ne q1 (hf c hm)
    have na2 : ∀ c ∈ [z, TI, TO, i1, i2], c ≠ a2 := fun c hm => I.sq_ne q2 (hf c hm)
    have S : Sep z TI TO i1 i2 [i1, a1] [i2, a2] := ⟨nd, by simp [z1, na1 z (by simp)], by simp [O1, na1 TO (by simp)], by simp [Ne.symm n12, na1 i2 (by simp)], by simp [z2, na2 z (by simp)], by simp [O2, na2 TO (by simp)], by simp [n12, na2 i1 (by simp)]⟩
    have hd := I.ok.hd hc
    have D1 := draws (prog := X.prog) (w := X.w) (A := X.A.in1) hd b1 i1 a1 u1.toArray (p1.ne h1)
    have D2 := draws (prog := X.prog) (w := X.w) (A := X.A.in1) hd b2 i2 a2 u2.toArray (p2.ne h2)
    have tyz : s.TypeIs (.ref z) "zip" := ⟨_, hz, rfl⟩
    unfold pyNext
    refine wpAny_bind (wpAny_attempt (wpAny_callSpecial?_slot (name := "__next__") tyz F.slot_zip_next (wpAny_call_entry F.slot_zip_next tyz F.entry_zip_next (zip_step S D1 D2 hz hI hO ⟨h1, p1⟩ ⟨h2, p2⟩ (by simpa using (List.getElem?_eq_some_iff.mp e1).1) (by simpa using (List.getElem?_eq_some_iff.mp e2).1)
      fun w1 w2 h' tk hw1 hw2 zh Oh d1 d2 new hk => wpAny_pure ?_) (F.args_zip_next_1 _))))
    obtain rfl : v1 = w1 := Option.some.inj (e1.symm.trans (by simpa using hw1))
    obtain rfl : v2 = w2 := Option.some.inj (e2.symm.trans (by simpa using hw2))
    refine ⟨_, rfl, wpAny_letOwnedTupleGo_zip zh fun h3 z3 s3 => ?_⟩
    have nz : s.heap.objs.size ≠ z := Nat.ne_of_gt (Heap.lt_size hz)
    have far : ∀ c ∈ [z, TI, TO, i1, i2], c ≠ s.heap.objs.size := fun c hm => by
      simp only [List.mem_cons, or_false, List.not_mem_nil] at hm
      rcases hm with rfl | rfl | rfl | rfl | rfl
      · exact Nat.ne_of_lt (Heap.lt_size hz)
      · exact Nat.ne_of_lt (Heap.lt_size hI)
      · exact Nat.ne_of_lt (Heap.lt_size hO)
      · exact Nat.ne_of_lt (Heap.lt_size h1)
      · exact Nat.ne_of_lt (Heap.lt_size h2)
    refine ⟨.ref s.heap.objs.size, _, I.spunN (fp := [z, TI, TO, i1, i2]) (fun c o hm q => ?_) hf (Nat.le_refl _) (pair_ok ((s3.2 _ nz).trans new) rx ry), rfl, ⟨x, y, fun l hl => by rw [I.sq_inj hl q1]; exact hx, fun l hl => by rw [I.sq_inj hl q2]; exact hy, _, I.fresh, rfl, rfl⟩,
      ⟨z3, (s3.2 _ (Ne.symm zI)).trans (hk TI _ (by simp [Ne.symm zI, IO, I1, I2]) hI), ⟨_, _, (s3.2 _ (Ne.symm zO)).trans Oh⟩, (s3.2 _ (Ne.symm z1)).trans d1.1, (s3.2 _ (Ne.symm z2)).trans d2.1⟩, fun c hm => by rw [upd_ne (far c hm), (hf c hm).1]⟩
    simp only [List.mem_cons, List.not_mem_nil, or_false, not_or] at hm
    exact (s3.2 c hm.1).trans (hk c o (by simp [hm]) q)
  done := by
    intro X hP hw hK hc i pins s σ H E I hf ⟨hz, hI, ⟨a, b, hO⟩, h1, h2⟩ ⟨xs, q1, hx⟩
    subst hP hw hK
    obtain ⟨u1, r1, p1⟩ := I.sq q1
    have nd' := nd
    simp only [List.nodup_cons, List.mem_cons, List.not_mem_nil, or_false, not_or] at nd'
    obtain ⟨⟨zI, zO, z1, z2⟩, ⟨IO, I1, I2⟩, ⟨O1, O2⟩, n12, _⟩ := nd'
    have na1 : ∀ c ∈ [z, TI, TO, i1, i2], c ≠ a1 := fun c hm => I.sq_ne q1 (hf c hm)
    have S : Sep z TI TO i1 i2 [i1, a1] [i2] := ⟨nd, by simp [z1, na1 z (by simp)], by simp [O1, na1 TO (by simp)], by simp [Ne.symm n12, na1 i2 (by simp)], by simp [z2], by simp [O2], by simp [n12]⟩
    have hsz : i = u1.toArray.size := by rw [List.size_toArray, ← r1.length, hx]
    have tyz : s.TypeIs (.ref z) "zip" := ⟨_, hz, rfl⟩
    unfold pyNext
    refine wpAny_bind (wpAny_attempt (wpAny_callSpecial?_slot (name := "__next__") tyz F.slot_zip_next (wpAny_call_entry F.slot_zip_next tyz F.entry_zip_next
      (zip_stop S (draws (prog := X.prog) (w := X.w) (A := X.A.in1) (I.ok.hd hc) b1 i1 a1 u1.toArray (p1.ne h1)) hz hI ⟨by rw [← hsz]; exact h1, p1⟩ fun h' x hk ⟨o, eo, co⟩ => ?_) (F.args_zip_next_1 _))))
    refine wpAny_bind (wpAny_isInstance (T := "StopIteration") (b := true) ⟨o, eo, co⟩ isSubtype_stop (wpAny_pure ⟨rfl, I.spun (t' := s.toks) (fp := [z, TI, TO, i1, i2]) (fun c o hm q => hk c o ?_ q) hf⟩))
    simp only [List.mem_cons, List.not_mem_nil, or_false, not_or] at hm ⊢
    exact ⟨hm.1, hm.2.2.1, hm.2.2.2.1, hm.2.2.2.2⟩
  self := fun _ _ _ _ _ st h => wpAny_pyIter_zip st.1 h
def iZip (K : PySem.W.Frag) (b1 b2 : Bool) (ta : TA) : TI := fun σ H R => ta σ H fun vs H1 => ∃ a1 a2 xs ys, vs = [.ref a1, .ref a2] ∧ SqB b1 K H1 a1 xs ∧ SqB b2 K H1 a2 ys ∧ R (Itz K b1 b2 a1 a2) H1
theorem pi_zip {X : Cx} {a b : Expr} {ta : TA} {p pos p1 : Pos} {es : List Expr} {k1} (b1 b2 : Bool) (hg : Gl X "zip") (hm : X.mg "zip" = none) (ha : PA X [a, b] ta) (hs : starEach [a, b] X.env = [(false, eval a X.env), (false, eval b X.env)] := by rfl) (hs2 : starEach [b] X.env = [(false, eval b X.env)] := by rfl) :
    PI X (.Tuple es k1 p1) (.Call (.Name "zip" p) [a, b] [] pos) (iZip X.K b1 b2 ta) := by
  intro pins s σ H R I h
  refine Call_ (ld_blt I hg hm (u := .type "zip") (by rfl) (PyProof.Rows.callWith_type1 (thn (ha pos pins s σ H _ I h) fun us s1 ⟨vs, H1, I1, r1, q1⟩ => ?_) (by rw [hs, hs2]) (by rw [hs2]; rfl)))
  obtain ⟨a1, a2, xs, ys, rfl, hq1, hq2, q⟩ := q1
  obtain ⟨u, v, rfl, ru, rv⟩ := r1.two
  cases ru
  cases rv
  obtain ⟨its, _, pl1⟩ := I1.sq hq1
  obtain ⟨jts, _, pl2⟩ := I1.sq hq2
  refine callType_new F.called_zip (by decide) (F.typeCall_zip_2 _ _) (F.newCall_zip_2 _ _) (fun obj => F.args_object_init_3 obj _ _) F.entry_zip_new (zip_new b1 b2 a1 a2 its.toArray jts.toArray) ⟨pl1, pl2, fun h' z ⟨TI, TO, i1, i2, nd, far, hz, hI, hO, h1, h2⟩ hk => ⟨⟨_, hz, rfl⟩, ?_⟩⟩
  exact wpAny_pyIter_zip hz ⟨_, [z, TI, TO, i1, i2], _, _, H1, rfl, I1.kept (t' := s1.toks) hk, turn_zip b1 b2 a1 a2 z TI TO i1 i2 nd, ⟨hz, hI, ⟨_, _, hO⟩, h1, h2⟩, fun c hc => I1.fpOk (far c hc) (I1.hok.fresh (far c hc)), q⟩
end L2
end
section
set_option maxHeartbeats 4000001
namespace L2
open PySem PySem.Spec PyProof.Rows Own
section
variable {X : Cx}
def CMulW (i j : Int) : Prop := i.natAbs < 2 ^ 20000 ∧ j.natAbs < 2 ^ 20000
theorem bits_le {k : Int} {n : Nat} (h : k.natAbs < 2 ^ n) (hn : 0 < n) : Builtin.Int.intBits k ≤ n := by
  unfold Builtin.Int.intBits
  split
  · exact Nat.zero_le _
  · rename_i hk
    have : Nat.log2 k.natAbs < n := (Nat.log2_lt (fun e => hk (by simp [Int.natAbs_eq_zero.mp e]))).mpr h
    lia
theorem CMulW.ok {i j : Int} (h : CMulW i j) : IntMulOk i j := by
  have h1 := bits_le h.1 (by decide)
  have h2 := bits_le h.2 (by decide)
  have big : Builtin.Int.intTooBig (Builtin.Int.intBits i + Builtin.Int.intBits j) = false := by
    have line : (40000 : Nat) ≤ bitsLine := by decide
    unfold Builtin.Int.intTooBig
    simp
    lia
  unfold IntMulOk
  rw [big]; simp
theorem op_mulW : OpR X (binaryOp .Mult) (rI CMulW fun i j => .int (i * j)) := opI fun _ _ _ _ _ _ _ hc q => mul_int q hc.ok
theorem walkB {prog : Program} {w : World} {A : Around} (hh : A.handled = none) (b : Bool) (I a : Addr) (hne : a ≠ I) (xs : Array Value) :
    Walks prog w A I [I, a] [I] xs.size (fun i v => xs[i]? = some v) (fun i h => (match b with | true => h.IsListIter I a i | false => h.IsTupleIter I a i) ∧ SqO b h a xs) := by
  cases b
  · exact Walks.tuple hh I a hne xs
  · exact Walks.list hh I a hne xs
theorem call_allB (hc : X.calm = true) (b : Bool) : CallR X (.builtin "all") (fun vs H Q => ∃ a bs, vs = [.ref a] ∧ SqB b X.K H a (List.map V.bl bs) ∧ Q (.bl (bs.all id)) H) := by
  intro pins s σ H vs us Q I rv h
  obtain ⟨a, bs, rfl, hq, q⟩ := h
  obtain ⟨u, rfl, ru⟩ := rv.one
  cases ru
  obtain ⟨its, r, p⟩ := I.sq hq
  have hne : a ≠ s.heap.objs.size := by
    obtain ⟨o, n, e, _⟩ := p.ob
    exact Nat.ne_of_lt (Heap.lt_size e)
  have hl : its.length = bs.length := by rw [← r.length, List.length_map]
  refine call_all_walk (iter_of p ⟨s.heap.objs.size, [s.heap.objs.size, a], [s.heap.objs.size], _, _, _, fun i => bs.getD i true, rfl, walkB (show X.A.in1.handled = none from I.ok.hd hc) b _ a hne its.toArray, ?_, ?_, ?_⟩)
  · refine ⟨?_, p.mv fun o e => Heap.get?_push_of_some _ e⟩
    cases b <;> exact ⟨_, Heap.get?_push_size _ rfl, rfl, rfl⟩
  · intro i v s' Q' E' hv hQ
    have hv' : its[i]? = some v := by simpa using hv
    have hi := (List.getElem?_eq_some_iff.mp hv').1
    have e : (List.map V.bl bs)[i]? = some (V.bl (bs.getD i true)) := by
      rw [List.getElem?_map, List.getD_eq_getElem?_getD, List.getElem?_eq_getElem (by lia)]
      rfl
    obtain ⟨u', e', ru⟩ := r.get e
    rw [hv'] at e'
    obtain rfl := Option.some.inj e'
    obtain rfl : v = Value.bool (bs.getD i true) := ru
    exact wpAny_truthy_bool hQ
  · intro h' tk hk
    refine ⟨.bl (bs.all id), H, I.kept (t' := tk) fun c o e => hk c o ?_ (Heap.get?_push_of_some _ e), ?_, q⟩
    · exact fun z => Nat.ne_of_lt (Heap.lt_size e) (List.mem_singleton.mp z)
    · show Value.bool _ = Value.bool _
      congr 1
      rw [List.size_toArray, hl, Bool.eq_iff_iff, List.all_eq_true, List.all_eq_true]
      constructor
      · intro h x hx
        obtain ⟨j, hj, e⟩ := List.getElem_of_mem hx
        have at_j := h j (List.mem_range.mpr hj)
        rw [List.getD_eq_getElem?_getD, List.getElem?_eq_getElem hj] at at_j
        rw [← e]; exact at_j
      · intro h j hj
        rw [List.getD_eq_getElem?_getD, List.getElem?_eq_getElem (List.mem_range.mp hj)]
        exact h _ (List.getElem_mem _)
theorem call_isi : CallR X (.builtin "isinstance") (fun vs H Q => ∃ x T t k, vs = [x, .ty T] ∧ TyOf X.K H x t ∧ PySem.W.kitOne X.K t (.type T) = some k ∧ Q (.bl k) H) := by
  intro pins s σ H vs us Q I rv h
  obtain ⟨x, T, t, k, rfl, ht, hk, q⟩ := h
  obtain ⟨u, v, rfl, ru, rv'⟩ := rv.two
  cases (show v = Value.type T from rv')
  exact isinst_ok I ru ht hk fun tk => ⟨.bl k, H, I.tok tk, rfl, q⟩
end
example (K : PySem.W.Frag) : PySem.W.kitOne K (.type "int") (.type "tuple") = some false := by rfl
example (K : PySem.W.Frag) : PySem.W.kitOne K (.type "int") (.type "bool") = some false := by first | rfl | decide | (with_unfolding_all rfl)
end L2
end
section
set_option maxHeartbeats 4000001
namespace L2
open PySem PySem.Spec PyProof.Rows Own
theorem same_new {H : Hp} {p : Addr} (h : H p = none) (o : HO) : Same H (upd H p o) := fun b u q => by rw [upd_ne (ne_of_none q h)]; exact q
def capB (N N' : List Str) (sc scope : Scope) (cap : List (Option Nat)) : Bool :=
  decide (scope.kind = .function) && (scope.names.all fun y => decide (y.2 ≠ .cell) && (decide (y.2 ≠ .local) || decide (scope.names.lookup y.1 = some .local)) &&
    (decide (y.2 ≠ .free) || (decide (sc.names.lookup y.1 = some .cell) || decide (sc.names.lookup y.1 = some .free)))) && decide (cap.length = N'.length) &&
  ((N'.zip cap).all fun p => match p.2 with
    | none => true
    | some i => decide (N[i]? = some p.1) && (decide (scope.names.lookup p.1 = some .free) && (decide (sc.names.lookup p.1 = some .cell) || decide (sc.names.lookup p.1 = some .free))))
theorem CapOk.of {N N' : List Str} {sc scope : Scope} {cap : List (Option Nat)} (h : capB N N' sc scope cap = true) : CapOk N N' sc scope cap := by
  unfold capB at h
  simp only [Bool.and_eq_true, List.all_eq_true, Bool.or_eq_true, decide_eq_true_eq] at h
  obtain ⟨⟨⟨h1, h2⟩, h3⟩, h4⟩ := h; refine ⟨h1, fun y hy => (h2 y hy).1.1, fun y hy e => ?_, fun y hy e => ?_, h3, fun p hp i e => ?_⟩
  · rcases (h2 y hy).1.2 with z | z
    · exact absurd e z
    · exact z
  · rcases (h2 y hy).2 with z | z
    · exact absurd e z
    · exact z
  · have q := h4 p hp
    rw [e] at q
    simp only [Bool.and_eq_true, Bool.or_eq_true, decide_eq_true_eq] at q
    exact q
def Nx (n i : Nat) (p : Prop) : Prop := ∃ m', m' < n - i ∧ m' = n - (i + 1) ∧ i + 1 ≤ n ∧ p
theorem nx {n i : Nat} {p : Prop} (h : i < n) (q : p) : Nx n i p := ⟨n - (i + 1), by lia, rfl, h, q⟩
theorem lc_range {lo : Int} {n : Nat} {g : TG} {te : TE} {l : Addr} {σ : St} {H : Hp} {Q : VK} (Pv : Nat → List V → St → Hp → Prop) (h0 : Pv 0 [] σ H) (hl : ∀ i acc σ H, Pv i acc σ H → H l = some (.lst acc))
    (hs : ∀ i acc σ H, i < n → Pv i acc σ H → g (.int (lo + i)) σ H fun σ3 H3 => te σ3 H3 fun y H5 => H5 l = some (.lst acc) ∧ acc.length < sizeLine ∧ Nx n i (Pv (i + 1) (acc ++ [y]) σ3 (upd H5 l (.lst (acc ++ [y])))))
    (hd : ∀ acc σ H, Pv n acc σ H → Q (.ref l) H) : ∃ W : Nat → Nat → List V → St → Hp → Prop, (∃ m, W 0 m [] σ H) ∧ LCW (Itr lo n) g tYes te l Q W := by
  refine ⟨fun i m acc σ H => m = n - i ∧ i ≤ n ∧ Pv i acc σ H, ⟨n, by simp, Nat.zero_le _, h0⟩, ?_⟩
  rintro i m acc σ H ⟨rfl, hi, p⟩
  refine ⟨hl i acc σ H p, ?_⟩
  by_cases hlt : i < n
  · refine .inr ⟨hlt, fun x H2 ⟨e, y⟩ => ?_⟩
    subst e y
    exact hs i acc σ _ hlt p
  · have e : i = n := by lia
    subst e
    exact .inl ⟨Nat.le_refl _, hd acc σ H p⟩
theorem lc_zip {K : PySem.W.Frag} {b1 b2 : Bool} {a1 a2 : Addr} {xs ys : List V} (hxy : xs.length = ys.length) {g : TG} {te : TE} {l : Addr} {σ : St} {H : Hp} {Q : VK} (Pv : Nat → List V → St → Hp → Prop) (h0 : Pv 0 [] σ H)
    (hl : ∀ i acc σ H, Pv i acc σ H → H l = some (.lst acc) ∧ SqB b1 K H a1 xs ∧ SqB b2 K H a2 ys)
    (hs : ∀ i acc σ H x y T, xs[i]? = some x → ys[i]? = some y → H T = none → Pv i acc σ H → g (.ref T) σ (upd H T (.tup [x, y])) fun σ3 H3 => te σ3 H3 fun z H5 => H5 l = some (.lst acc) ∧ acc.length < sizeLine ∧ Nx xs.length i (Pv (i + 1) (acc ++ [z]) σ3 (upd H5 l (.lst (acc ++ [z])))))
    (hd : ∀ acc σ H, Pv xs.length acc σ H → Q (.ref l) H) : ∃ W : Nat → Nat → List V → St → Hp → Prop, (∃ m, W 0 m [] σ H) ∧ LCW (Itz K b1 b2 a1 a2) g tYes te l Q W := by
  refine ⟨fun i m acc σ H => m = xs.length - i ∧ i ≤ xs.length ∧ Pv i acc σ H, ⟨xs.length, by simp, Nat.zero_le _, h0⟩, ?_⟩
  rintro i m acc σ H ⟨rfl, hi, p⟩
  obtain ⟨q0, q1, q2⟩ := hl i acc σ H p
  refine ⟨q0, ?_⟩
  by_cases hlt : i < xs.length
  · refine .inr ⟨⟨xs, ys, _, _, q1, q2, List.getElem?_eq_getElem hlt, List.getElem?_eq_getElem (by lia)⟩, fun v H2 ⟨x, y, ex, ey, T, hT, e1, e2⟩ => ?_⟩
    subst e1 e2
    exact hs i acc σ H x y T (ex xs q1) (ey ys q2) hT p
  · have e : i = xs.length := by lia
    subst e
    exact .inl ⟨⟨xs, q1, rfl⟩, hd acc σ H p⟩
theorem for_enum {K : PySem.W.Frag} {b : Bool} {a : Addr} {xs : List V} {g : TG} {tb : TS} {D : Ends} {σ : St} {H : Hp} (Pv : Nat → St → Hp → Prop) (h0 : Pv 0 σ H) (hl : ∀ i σ H, i ≤ xs.length → Pv i σ H → SqB b K H a xs)
    (hs : ∀ i x σ H T, xs[i]? = some x → H T = none → Pv i σ H → g (.ref T) σ (upd H T (.tup [.int i, x])) fun σ2 H2 => tb { D with nx := Pv (i + 1), ct := Pv (i + 1), bk := D.nx } σ2 H2) (hd : ∀ σ H, Pv xs.length σ H → D.nx σ H) :
    ∃ W : Nat → Nat → St → Hp → Prop, (∃ m, W 0 m σ H) ∧ ∀ i m σ H, W i m σ H →
      ((Ite K b a).stop i H ∧ D.nx σ H) ∨ ((Ite K b a).go i H ∧ ∃ N : St → Hp → Prop, (∀ σ' H', N σ' H' → ∃ m', m' < m ∧ W (i + 1) m' σ' H') ∧ ∀ x H', (Ite K b a).yld i H x H' → g x σ H' fun σ2 H2 => tb { D with nx := N, ct := N, bk := D.nx } σ2 H2) := by
  refine ⟨fun i m σ H => m = xs.length - i ∧ i ≤ xs.length ∧ Pv i σ H, ⟨xs.length, by simp, Nat.zero_le _, h0⟩, ?_⟩
  rintro i m σ H ⟨rfl, hi, p⟩
  have q := hl i σ H hi p
  by_cases hlt : i < xs.length
  · refine .inr ⟨⟨xs, xs[i], q, List.getElem?_eq_getElem hlt⟩, Pv (i + 1), fun σ' H' p' => ⟨xs.length - (i + 1), by lia, rfl, hlt, p'⟩, fun x H' ⟨y, ey, T, hT, e1, e2⟩ => ?_⟩
    subst e1 e2
    exact hs i y σ H T (ey xs q) hT p
  · have e : i = xs.length := by lia
    subst e
    exact .inl ⟨⟨xs, q, rfl⟩, hd σ H p⟩
end L2
end
section
set_option maxHeartbeats 4000001
namespace L2
open PySem PySem.Spec PyProof.Rows Own
section
variable {X : Cx}
end
end L2
end
section
set_option maxHeartbeats 4000001
namespace Own
open PySem PySem.Spec PyProof.Rows
section
variable {prog : Program} {w : World} {A : Around} {E : Value → Shared → Prop} {s : Shared}
end
end Own
namespace L2
open PySem PySem.Spec PyProof.Rows Own
section
variable {X : Cx}
end
end L2
end
section
set_option maxHeartbeats 4000001
namespace L2
open PySem PySem.Spec PyProof.Rows Own
section
variable {X : Cx}
end
theorem lc_tup {K : PySem.W.Frag} {a : Addr} {xs : List V} {g : TG} {te : TE} {l : Addr} {σ : St} {H : Hp} {Q : VK} (Pv : Nat → List V → St → Hp → Prop) (h0 : Pv 0 [] σ H) (hl : ∀ i acc σ H, Pv i acc σ H → H l = some (.lst acc) ∧ SqT K H a xs)
    (hs : ∀ i x acc σ H, xs[i]? = some x → Pv i acc σ H → g x σ H fun σ3 H3 => te σ3 H3 fun y H5 => H5 l = some (.lst acc) ∧ acc.length < sizeLine ∧ Nx xs.length i (Pv (i + 1) (acc ++ [y]) σ3 (upd H5 l (.lst (acc ++ [y])))))
    (hd : ∀ acc σ H, Pv xs.length acc σ H → Q (.ref l) H) : ∃ W : Nat → Nat → List V → St → Hp → Prop, (∃ m, W 0 m [] σ H) ∧ LCW (Itt K a) g tYes te l Q W := by
  refine ⟨fun i m acc σ H => m = xs.length - i ∧ i ≤ xs.length ∧ Pv i acc σ H, ⟨_, rfl, Nat.zero_le _, h0⟩, ?_⟩
  rintro i m acc σ H ⟨rfl, hi, p⟩
  obtain ⟨q0, q1⟩ := hl i acc σ H p
  refine ⟨q0, ?_⟩
  by_cases hlt : i < xs.length
  · refine .inr ⟨⟨xs, xs[i], q1, List.getElem?_eq_getElem hlt⟩, fun x H2 ⟨e, y⟩ => ?_⟩
    subst e
    exact hs i x acc σ _ (y xs q1) p
  · obtain rfl : i = xs.length := by lia
    exact .inl ⟨⟨xs, q1, Nat.le_refl _⟩, hd acc σ H p⟩
theorem lc_list {K : PySem.W.Frag} {a : Addr} {xs : List V} {g : TG} {te : TE} {l : Addr} {σ : St} {H : Hp} {Q : VK} (Pv : Nat → List V → St → Hp → Prop) (h0 : Pv 0 [] σ H) (hl : ∀ i acc σ H, Pv i acc σ H → H l = some (.lst acc) ∧ SqL K H a xs)
    (hs : ∀ i x acc σ H, xs[i]? = some x → Pv i acc σ H → g x σ H fun σ3 H3 => te σ3 H3 fun y H5 => H5 l = some (.lst acc) ∧ acc.length < sizeLine ∧ Nx xs.length i (Pv (i + 1) (acc ++ [y]) σ3 (upd H5 l (.lst (acc ++ [y])))))
    (hd : ∀ acc σ H, Pv xs.length acc σ H → Q (.ref l) H) : ∃ W : Nat → Nat → List V → St → Hp → Prop, (∃ m, W 0 m [] σ H) ∧ LCW (Itl K a) g tYes te l Q W := by
  refine ⟨fun i m acc σ H => m = xs.length - i ∧ i ≤ xs.length ∧ Pv i acc σ H, ⟨_, rfl, Nat.zero_le _, h0⟩, ?_⟩
  rintro i m acc σ H ⟨rfl, hi, p⟩
  obtain ⟨q0, q1⟩ := hl i acc σ H p
  refine ⟨q0, ?_⟩
  by_cases hlt : i < xs.length
  · refine .inr ⟨⟨xs, xs[i], q1, List.getElem?_eq_getElem hlt⟩, fun x H2 ⟨e, y⟩ => ?_⟩
    subst e
    exact hs i x acc σ _ (y xs q1) p
  · obtain rfl : i = xs.length := by lia
    exact .inl ⟨⟨xs, q1, Nat.le_refl _⟩, hd acc σ H p⟩
end L2
end
section
set_option maxHeartbeats 4000001
namespace L2
open PySem PySem.Spec PyProof.Rows PySem.Calls PySem.NumText Own
section
variable {X : Cx}
theorem op_repS : OpR X (binaryOp .Mult) (fun x y H Q => ∃ (c : Nat) (n : Int), x = .str ⟨#[c]⟩ ∧ y = .int n ∧ 0 ≤ n ∧ n ≤ 100000 ∧ ∀ z : Str, z.cps.toList = List.replicate n.toNat c → Q (.str z) H) := by
  intro pins s σ H x y v u Q I rx ry h
  obtain ⟨c, n, rfl, rfl, n0, n1, q⟩ := h
  obtain ⟨t, rfl⟩ := rx
  obtain ⟨t', rfl⟩ := ry
  have one : (⟨#[c]⟩ : Str).length = 1 := rfl
  refine PySem.P.mul_str (by rw [decide_eq_false (by lia), decide_eq_false (by lia)]; rfl) (fun a b => ?_) (fun a b => ?_) ?_
  · rw [one]
    have : (1 : Int) ≤ (2 ^ 63 - 1) / n := by
      rw [Int.le_ediv_iff_mul_le (by lia)]; lia
    lia
  · rw [one]
    exact decide_eq_false (by have := sizeLine_eq; lia)
  · by_cases a : n < 1
    · rw [if_pos a]
      have e : n = 0 := by lia
      subst e
      exact ⟨by decide, .str _, H, I.tok _, ⟨_, rfl⟩, q _ rfl⟩
    · rw [if_neg a]
      by_cases b : n = 1
      · subst b
        rw [if_pos (show ((1 : Int) == 1 || (⟨#[c]⟩ : Str).length == 0) = true from rfl)]
        exact ⟨.str _, H, I, ⟨_, rfl⟩, q _ rfl⟩
      · have nb : ¬ (n == 1 || (⟨#[c]⟩ : Str).length == 0) = true := by simp [b, one]
        rw [if_neg nb]
        have lst : ∀ (k : Nat) (acc : Array Nat), ((List.replicate k #[c]).foldl (· ++ ·) acc).toList = acc.toList ++ List.replicate k c := fun k => by
          induction k with
          | zero => intro acc; simp
          | succ k ih => intro acc; rw [List.replicate_succ, List.foldl_cons, ih, List.replicate_succ]; simp
        have l0 := lst n.toNat #[]
        refine ⟨?_, .str _, H, I.tok _, ⟨_, rfl⟩, q _ (by rw [l0]; rfl)⟩
        have ln := congrArg List.length l0
        simp only [Array.length_toList, List.length_append, List.length_replicate] at ln
        show (Array.size _) ≤ sizeLine
        rw [ln]
        have := sizeLine_eq
        simp
        lia
end
end L2
end
section
set_option maxHeartbeats 4000001
namespace L2
open PySem PySem.Spec PyProof.Rows Own
section
variable {prog : Program} {w : World} {A : Around} {E : Value → Shared → Prop} {s : Shared}
end
section
variable {X : Cx}
end
end L2
end
section
set_option maxHeartbeats 4000001
namespace L2
open PySem PySem.Spec PyProof.Rows Own
section
variable {prog : Program} {w : World} {A : Around} {E : Value → Shared → Prop} {s : Shared}
end
section
variable {X : Cx}
end
end L2
end
section
set_option maxHeartbeats 4000001
namespace L2
open PySem PySem.Spec PyProof.Rows Own
section
variable {X : Cx}
end
end L2
end
section
set_option maxHeartbeats 4000001
namespace L2
open PySem PySem.Spec PyProof.Rows Own
section
variable {X : Cx}
end
end L2
end
section
set_option maxHeartbeats 4000001
namespace Bn
open PySem L2 Own
def Tups (H H' : Hp) : Prop := ∀ a xs, H a = some (.tup xs) → H' a = some (.tup xs)
def But (l : Addr) (H H' : Hp) : Prop := ∀ b o, H b = some o → b ≠ l → H' b = some o
theorem But.trans {l : Addr} {H H1 H2 : Hp} (x : But l H H1) (y : But l H1 H2) : But l H H2 := fun b o e n => y b o (x b o e n) n
theorem But.of {l : Addr} {H H1 : Hp} (x : Same H H1) : But l H H1 := fun b o e _ => x b o e
structure Nt where
  lanes : Nat
  forks : List (Nat × Nat)
  ends : List Nat
structure Mgs (mg : Str → Option Value) : Prop where
  len : mg "len" = none
  range : mg "range" = none
  tuple : mg "tuple" = none
  enum : mg "enumerate" = none
  abs : mg "abs" = none
  zip : mg "zip" = none
  isi : mg "isinstance" = none
  all : mg "all" = none
  sum : mg "sum" = none
  bool : mg "bool" = none
  int : mg "int" = none
  str : mg "str" = none
  max : mg "max" = none
  min : mg "min" = none
  sorted : mg "sorted" = none
  list : mg "list" = none
structure Use (P : Program) (w : World) (K : PySem.W.Frag) (mg : Str → Option Value) (base : Heap) (x : Str) (ps : List Str) (k : Nat) (sp : Sp) (f : Addr) (fd : FuncData) : Prop where
  ok : FnOk P w K mg base CX0 k f fd ps sp
  b : Binds K fd ps []
  kp : PySem.W.keepIn K (.ref f) = true
  m : mg x = some (.ref f)
def Frs (l : Addr) (H : Hp) (x : Addr) : Prop := ∀ b o, H b = some o → b ≠ l → b ≠ x
theorem But.upd {l x : Addr} {H H1 : Hp} {o : HO} (B : But l H H1) (f : Frs l H x) : But l H (upd H1 x o) := fun b u e n => by rw [upd_ne (f b u e n)]; exact B b u e n
end Bn
end
section
set_option maxHeartbeats 4000001
namespace Bn
open PySem L2 Own
def nm (ns : List Nat) (i : Nat) : Nat := ns.getD i 0
section
variable {ns : List Nat} {n : Nat} (pm : ns.Perm (List.range n))
include pm
end
def Nt.again (N : Nt) (f : Nat × Nat) : Nt := ⟨N.lanes, N.forks ++ [f], N.ends⟩
end Bn
end
section
set_option maxHeartbeats 4000001
namespace L2
open PySem PySem.Spec PyProof.Rows Own
section
variable {X : Cx}
end
end L2
end
section
set_option maxHeartbeats 4000001
namespace L2
open PySem PySem.Spec PyProof.Rows Own
section
variable {prog : Program} {w : World} {A : Around} {E : Value → Shared → Prop} {s : Shared}
end
section
variable {X : Cx}
end
end L2
end
section
set_option maxHeartbeats 4000001
namespace L2
open PySem PySem.Spec PyProof.Rows Own
section
variable {prog : Program} {w : World} {A : Around} {R : Result → Shared → Prop} {I S : Addr} {fp wr : List Addr} {n : Nat} {P B : Nat → Value → Prop} {St : Nat → Heap → Prop}
end
section
variable {prog : Program} {w : World} {A : Around} {E : Value → Shared → Prop} {s : Shared}
end
section
variable {X : Cx} {e e2 : Expr} {ta tb : TE} {p kp pos : Pos}
end
end L2
end
section
set_option maxHeartbeats 4000001
namespace K76
open PySem L2 Own Bn
def top (i : Nat) : Stmt := PySem.Challenge.pw_stairlanes_k76_texts_of_no_counts.main.body.getD i (.Pass ⟨0, 0, 0, 0⟩)
end K76
end
section
set_option maxHeartbeats 4000001
namespace L2
open PySem PySem.Spec PyProof.Rows Own
section
variable {X : Cx}
end
theorem cut_upto (xs : List V) (i : Nat) (h : i ≤ xs.length) : cutV xs none (some (i : Int)) = xs.take i := by
  unfold cutV
  rw [HT.sIx_none, HT.sIx_nat, List.drop_zero, Nat.sub_zero, Nat.min_eq_left h]
theorem cut_from (xs : List V) (i : Nat) (h : i ≤ xs.length) : cutV xs (some (i : Int)) none = xs.drop i := by
  unfold cutV
  rw [HT.sIx_none, HT.sIx_nat, Nat.min_eq_left h]
  exact List.take_of_length_le (by rw [List.length_drop]; exact Nat.le_refl _)
end L2
end
section
set_option maxHeartbeats 4000001
namespace L2
open PySem PySem.Spec PyProof.Rows Own
section
variable {X : Cx}
end
end L2
end
section
set_option maxHeartbeats 4000001
namespace L2
open PySem PySem.Spec PyProof.Rows Own
section
variable {X : Cx}
end
end L2
end
section
set_option maxHeartbeats 4000001
namespace L2
open PySem PySem.Spec PyProof.Rows PySem.Calls PySem.NumText Own
section
variable {prog : Program} {w : World} {A : Around} {E : Value → Shared → Prop} {s : Shared}
end
section
variable {X : Cx}
end
end L2
end
section
set_option maxHeartbeats 4000001
namespace L2
open PySem PySem.Spec PyProof.Rows Own Builtin Builtin.Str
section
variable {X : Cx}
theorem mt_starts : MtR X "str.startswith" (fun x xs H Q => ∃ a b : Str, x = .str a ∧ xs = [.str b] ∧ Q (.bl (decide (0 + b.length ≤ a.length) && subAt a b 0)) H) := by
  intro pins s σ H x xs v us Q I rx rs h
  obtain ⟨a, b, rfl, rfl, q⟩ := h
  obtain ⟨t, rfl⟩ := rx
  obtain ⟨u, rfl, t', rfl⟩ := vals1 rs
  exact call_gives F.slot_str_startswith (typeIs_str _ _ _) F.entry_str_startswith (F.args_str_startswith_2 _ _) (gives_str_startswith a b t t') ⟨.bl _, H, I, rfl, q⟩
theorem vals_strs : ∀ {ss : List Str} {us : List Value}, Vals (ss.map V.str) us → ∃ l : List (Str × Tok), l.map (·.1) = ss ∧ us = strValues l
  | [], _, .nil => ⟨[], rfl, rfl⟩
  | z :: ss, _, .cons r rs => by
    obtain ⟨t, rfl⟩ := r
    obtain ⟨l, e1, e2⟩ := vals_strs rs
    exact ⟨(z, t) :: l, by rw [List.map_cons, e1], by rw [e2]; rfl⟩
theorem strs_vals : ∀ (l : List (Str × Tok)), Vals ((l.map (·.1)).map V.str) (strValues l)
  | [] => .nil
  | p :: l => .cons ⟨p.2, rfl⟩ (strs_vals l)
theorem mt_join : MtR X "str.join" (fun x xs H Q => ∃ (sep : Str) (a : Addr) (ss : List Str), x = .str sep ∧ xs = [.ref a] ∧ SqL X.K H a (ss.map V.str) ∧ JoinOk sep ss = true ∧ Q (.str (Txt.join sep ss)) H) := by
  intro pins s σ H x xs v us Q I rx rs h
  obtain ⟨sep, a, ss, rfl, rfl, hl, ok, q⟩ := h
  obtain ⟨t, rfl⟩ := rx
  obtain ⟨u, rfl, ru⟩ := vals1 rs
  obtain rfl : u = Value.ref a := ru
  obtain ⟨its, g, p, _⟩ := I.list hl
  obtain ⟨l, rfl, rfl⟩ := vals_strs g
  obtain ⟨o, eo, co, m, dm⟩ := p.isList
  have ok' := ok
  unfold JoinOk at ok'
  rw [Bool.not_eq_true'] at ok'
  exact call_meets F.slot_str_join (typeIs_str _ _ _) F.entry_str_join (F.args_str_join_2 _ _) (meets_str_join_list sep t a l ok') ⟨⟨o, eo, co, m, dm⟩, post_join l ⟨joinFit_length ok', fun t' k => ⟨.str _, H, I.tok _, ⟨_, rfl⟩, q⟩⟩⟩
theorem mt_split : MtR X "str.split" (fun x xs H Q => ∃ a b : Str, x = .str a ∧ xs = [.str b] ∧ (b.length == 0) = false ∧ a.length + 2 ≤ sizeLine ∧ ∀ l, H l = none → Q (.ref l) (upd H l (.lst ((Txt.split a b).map V.str)))) := by
  intro pins s σ H x xs v us Q I rx rs h
  obtain ⟨a, b, rfl, rfl, hb, ha, q⟩ := h
  obtain ⟨t, rfl⟩ := rx
  obtain ⟨u, rfl, t', rfl⟩ := vals1 rs
  have fin : ∀ (l : List (Str × Tok)) k, l.map (·.1) = Txt.split a b → wants (EP X pins σ Q) X.xe (.ok (.ret (.ref s.heap.objs.size))) { s with toks := k, heap := s.heap.push { cls := .type "list", data := .seq (strValues l).toArray } } := fun l k e => by
    refine ⟨.ref _, _, I.laid (t' := k) (o := .lst ((Txt.split a b).map V.str)) (fun b' ob q => Heap.get?_push_of_some _ q) (Nat.le_refl _) ⟨?_, strValues l, 0, by rw [← e]; exact strs_vals l, Heap.get?_push_size _ rfl⟩, rfl, q _ (I.hok.fresh (Nat.le_refl _))⟩
    rw [List.length_map]
    exact Nat.le_trans (split_le a b) ha
  have hn : (occurrences a b 0 a.length (a.length + 1)).isEmpty = false → (decide (a.length < b.length) || decide (strKind a < strKind b)) = false → (partsBetween a (occurrences a b 0 a.length (a.length + 1)) b.length).length ≤ sizeLine := fun hf h1 => by
    have := split_le a b
    unfold Txt.split at this
    rw [if_neg (ne_true_of_eq_false h1), if_neg (ne_true_of_eq_false hf)] at this
    lia
  cases h1 : (decide (a.length < b.length) || decide (strKind a < strKind b)) with
  | true => exact call_meets F.slot_str_split (typeIs_str _ _ _) F.entry_str_split (F.args_str_split_2 _ _) (meets_str_split_cannot_occur a b t t' h1) (fin [(a, t)] s.toks (if_pos h1).symm)
  | false =>
    cases hf : (occurrences a b 0 a.length (a.length + 1)).isEmpty with
    | true => exact call_meets F.slot_str_split (typeIs_str _ _ _) F.entry_str_split (F.args_str_split_2 _ _) (meets_str_split_not_found a b t t' h1 hb hf) (fin [(a, t)] s.toks ((if_neg (ne_true_of_eq_false h1)).trans (if_pos hf)).symm)
    | false =>
      refine call_meets F.slot_str_split (typeIs_str _ _ _) F.entry_str_split (F.args_str_split_2 _ _) (meets_str_split_sep a b t t' h1 hb hf (by lia) (hn hf h1)) ?_
      have := fin (numbered s.toks (partsBetween a (occurrences a b 0 a.length (a.length + 1)) b.length)) (s.toks + (partsBetween a (occurrences a b 0 a.length (a.length + 1)) b.length).length) ((numbered_texts _ _).trans ((if_neg (ne_true_of_eq_false h1)).trans (if_neg (ne_true_of_eq_false hf))).symm)
      rw [← strsFrom_eq] at this
      exact this
end
end L2
end
section
set_option maxHeartbeats 4000001
namespace L2
open PySem PySem.Spec PyProof.Rows Own Builtin Builtin.Str
def strFrom (z : Str) (k : Nat) : Str := ⟨(z.cps.toList.drop k).toArray⟩
def Its (z : Str) : It := ⟨fun i _ => i < z.length, fun i H x H' => H' = H ∧ ∃ c, z.cps[i]? = some c ∧ x = .str ⟨#[c]⟩, fun i _ => z.length ≤ i⟩
section
variable {X : Cx} {tg : Expr}
theorem sl_strFrom : SlR X (fun x lo hi H Q => ∃ (z : Str) (k : Nat), x = .str z ∧ lo = some ((k : Nat) : Int) ∧ hi = none ∧ k ≤ z.length ∧ z.length ≤ sizeLine ∧ Q (.str (strFrom z k)) H) := by
  intro pins s σ H x v vl vu lo hi sl Q I rx hs pl pu h
  obtain ⟨z, k, rfl, rfl, rfl, kl, zl, q⟩ := h
  obtain ⟨t, rfl⟩ := rx
  cases pu
  cases pl with
  | int _ tk =>
  refine ⟨"str", _, F.slot_str_getitem.lookup, typeIs_str _ _ _, ?_⟩
  refine wpAny_getItem_str_slice (l := some (((k : Nat) : Int), tk)) (u := none) (st := none) hs rfl ?_
  have e : (slicePicked z (some (((k : Nat) : Int), tk)) none none).filterMap (z.cps[·]?) = z.cps.toList.drop k := by
    unfold slicePicked
    show (strSliceIndices (some ((k : Nat) : Int)) none 1 z.length).filterMap _ = _
    rw [StrLaws.sliceIdx_none_hi, StrLaws.sliced_plain z kl (Nat.le_refl _)]
    exact List.take_of_length_le (by rw [List.length_drop]; simp [Str.length])
  have ln : (slicePicked z (some (((k : Nat) : Int), tk)) none none).length = z.length - k := by
    unfold slicePicked
    show (strSliceIndices (some ((k : Nat) : Int)) none 1 z.length).length = _
    rw [StrLaws.sliceIdx_none_hi, StrLaws.strSliceIndices_plain kl (Nat.le_refl _), List.length_map, List.length_range]
  unfold sliceMade
  by_cases w : k = 0 ∨ z.length = 0
  · have eq : (slicePicked z (some (((k : Nat) : Int), tk)) none none).length = z.length := by rw [ln]; lia
    rw [if_pos (by rw [eq]; simp)]
    have ez : strFrom z k = z := by
      unfold strFrom
      rcases w with rfl | w
      · rw [List.drop_zero]
      · have : z.cps.toList = [] := List.eq_nil_of_length_eq_zero (by simpa [Str.length] using w)
        rw [this, List.drop_nil]
        have : z.cps = #[] := Array.toList_inj.mp (by rw [this])
        cases z; simp_all
    rw [ez] at q
    exact ⟨.str z, H, I, ⟨_, rfl⟩, q⟩
  · have ne : (slicePicked z (some (((k : Nat) : Int), tk)) none none).length ≠ z.length := by rw [ln]; lia
    rw [if_neg (by simpa using ne), e]
    refine ⟨?_, .str _, H, I.tok _, ⟨_, rfl⟩, q⟩
    show (z.cps.toList.drop k).toArray.size ≤ sizeLine
    rw [List.size_toArray, List.length_drop]
    have : z.cps.toList.length = z.length := by simp [Str.length]
    lia
theorem turn_str {P : Program} {w : World} {K : PySem.W.Frag} {tg : Expr} (z : Str) (t : Tok) (it : Addr) : Turn P w K tg (Its z) [it] it (fun i h => h.IsStrIter it "str_ascii_iterator" z t i) where
  mem := by simp
  obj := fun i h st b hb => by
    have e : b = it := by simpa using hb
    subst e
    obtain ⟨o, e, c, d⟩ := st
    exact ⟨o, e, fun v y => by rw [d] at y; cases y⟩
  keep := fun i h h' st k => let ⟨o, e, r⟩ := st; ⟨o, k it (by simp) o e, r⟩
  item := by
    intro X hP hw hK hc i pins s σ H E I hf st hg
    subst hP hw hK
    have il : i < z.cps.size := hg
    obtain ⟨f0, f1, f2, f3, f4, f5⟩ := hf it (by simp)
    refine wpAny_pyNext_ascii_item st (c := z.cps[i]) (getElem?_pos z.cps i il) fun h' st' sb => ?_
    have I1 : Inv X pins σ H { s with heap := h', toks := s.toks + 1 } := I.turned (t' := s.toks + 1) (fun b o hb e => (sb.2 b hb).trans e) f0 f1 f3 f4 f5
    obtain ⟨o, e, c, d⟩ := id st'
    exact ⟨_, rfl, go_of (s := { s with heap := h', toks := s.toks + 1 }) e c d (by decide) ⟨.str ⟨#[z.cps[i]]⟩, H, I1, ⟨_, rfl⟩, ⟨rfl, _, getElem?_pos z.cps i il, rfl⟩, st', fun b hb => (hf b hb).1⟩⟩
  done := by
    intro X hP hw hK hc i pins s σ H E I hf st hg
    subst hP hw hK
    have il : z.cps.size ≤ i := hg
    obtain ⟨f0, f1, f2, f3, f4, f5⟩ := hf it (by simp)
    exact wpAny_pyNext_ascii_end (I.ok.hd hc) st (getElem?_neg z.cps i (by lia)) fun h' eb => ⟨rfl, I.turned (t' := s.toks) (fun b o hb e => eb b o hb e) f0 f1 f3 f4 f5⟩
  self := fun _ _ _ _ _ st h => wpAny_pyIter_striter_ascii st h
def iStr (tl : TE) : TI := fun σ H R => tl σ H fun x H1 => ∃ z : Str, x = .str z ∧ z.cps.all (· < 128) = true ∧ R (Its z) H1
theorem pi_str {l : Expr} {tl : TE} (hl : PE X l tl) : PI X tg l (iStr tl) := by
  intro pins s σ H R I h
  refine thn (hl pins s σ H _ I h) fun v s1 ⟨x, H1, I1, r1, q1⟩ => ?_
  obtain ⟨z, e, az, q⟩ := q1
  subst e
  obtain ⟨t, rfl⟩ := r1
  refine wpAny_pyIter_ascii az ?_
  refine ⟨s1.heap.objs.size, [s1.heap.objs.size], _, _, H1, rfl, I1.kept (t' := s1.toks) fun b o e => Heap.get?_push_of_some _ e, turn_str z t _, ⟨_, Heap.get?_push_size _ rfl, rfl, rfl⟩, fun b hb => ?_, q⟩
  have e : b = s1.heap.objs.size := by simpa using hb
  subst e
  exact I1.fpOk (Nat.le_refl _) (I1.hok.fresh (Nat.le_refl _))
theorem lc_str {z : Str} {g : TG} {te : TE} {l : Addr} {σ : St} {H : Hp} {Q : VK} (Pv : Nat → List V → St → Hp → Prop) (h0 : Pv 0 [] σ H) (hl : ∀ i acc σ H, Pv i acc σ H → H l = some (.lst acc))
    (hs : ∀ i c acc σ H, z.cps[i]? = some c → Pv i acc σ H → g (.str ⟨#[c]⟩) σ H fun σ3 H3 => te σ3 H3 fun y H5 => H5 l = some (.lst acc) ∧ acc.length < sizeLine ∧ Nx z.length i (Pv (i + 1) (acc ++ [y]) σ3 (upd H5 l (.lst (acc ++ [y])))))
    (hd : ∀ acc σ H, Pv z.length acc σ H → Q (.ref l) H) : ∃ W : Nat → Nat → List V → St → Hp → Prop, (∃ m, W 0 m [] σ H) ∧ LCW (Its z) g tYes te l Q W := by
  refine ⟨fun i m acc σ H => m = z.length - i ∧ i ≤ z.length ∧ Pv i acc σ H, ⟨_, rfl, Nat.zero_le _, h0⟩, ?_⟩
  rintro i m acc σ H ⟨rfl, hi, p⟩
  refine ⟨hl i acc σ H p, ?_⟩
  by_cases hlt : i < z.length
  · refine .inr ⟨hlt, fun x H2 ⟨e, c, ec, ex⟩ => ?_⟩
    subst e ex
    exact hs i c acc σ _ ec p
  · have e : i = z.length := by lia
    subst e
    exact .inl ⟨Nat.le_refl _, hd acc σ H p⟩
end
end L2
end
section
set_option maxHeartbeats 4000001
namespace Bn
open PySem PySem.Spec PyProof.Rows PySem.NumText
def txt (n : Int) : Str := Str.ofString (toString n)
def digs (m : Nat) : List Nat := (Nat.toDigits 10 m).map Char.toNat
theorem digs_all (m : Nat) : AllDigits (digs m) := fun c hc => by
  obtain ⟨sg, hsg, e⟩ := List.mem_map.mp hc
  rw [← e]
  exact digit_range (Nat.isDigit_of_mem_toDigits (by decide) (by decide) hsg)
theorem digs_ge (m : Nat) : 1 ≤ (digs m).length := by
  unfold digs
  rw [List.length_map]
  exact toDigits_len_ge 10 m
theorem digs_le {m k : Nat} (hk : 1 ≤ k) (h : m < 10 ^ k) : (digs m).length ≤ k := by
  unfold digs
  rw [List.length_map]
  exact toDigits_len_pow (by decide) hk h
theorem head_digit : ∀ d : Nat, d < 10 → 1 ≤ d → (Nat.digitChar d).toNat ≠ 48 := by decide
theorem digs_head {m : Nat} (h : 1 ≤ m) : ∀ r, digs m ≠ 48 :: r := by
  induction m using Nat.strongRecOn with | _ m ih => ?_
  · intro r e
    by_cases q : m < 10
    · unfold digs at e
      rw [Nat.toDigits_of_lt_base q] at e
      exact head_digit m q h (by simpa using (List.cons.inj e).1)
    · have hm : m % 10 < 10 := by lia
      have hq : 0 < m / 10 := by lia
      have t := (Nat.toDigits_append_toDigits (b := 10) (by decide) hq hm : Nat.toDigits 10 (m / 10) ++ Nat.toDigits 10 (m % 10) = _)
      rw [Nat.div_add_mod] at t
      have e2 : digs m = digs (m / 10) ++ digs (m % 10) := by unfold digs; rw [← t, List.map_append]
      rw [e2] at e
      have g := digs_ge (m / 10)
      cases hd : digs (m / 10) with
      | nil => rw [hd] at g; simp at g
      | cons c cs =>
        rw [hd] at e
        have : c = 48 := (List.cons.inj e).1
        subst this
        exact ih (m / 10) (by lia) (by lia) cs hd
theorem txt_pos (m : Nat) : (txt (m : Nat)).cps.toList = digs m := PySem.W.KIN.signs_num m
theorem txt_neg (m : Nat) (h : 1 ≤ m) : (txt (-(m : Nat))).cps.toList = 45 :: digs m := by
  obtain ⟨k, rfl⟩ : ∃ k, m = k + 1 := ⟨m - 1, by lia⟩
  have tn : toString (-((k + 1 : Nat) : Int)) = "-" ++ toString (((k + 1 : Nat) : Int)) := rfl
  unfold txt
  rw [tn]
  generalize k + 1 = m
  have : (Str.ofString ("-" ++ toString ((m : Nat) : Int))).cps.toList = (Str.ofString "-").cps.toList ++ (Str.ofString (toString ((m : Nat) : Int))).cps.toList := by
    rw [signs_ofString, signs_ofString, signs_ofString, String.toList_append, List.map_append]
  rw [this, PySem.W.KIN.signs_num]; rfl
open Builtin Builtin.Str
theorem txt_cases (n : Int) : (0 ≤ n ∧ (txt n).cps.toList = digs n.natAbs) ∨ (n < 0 ∧ (txt n).cps.toList = 45 :: digs n.natAbs) := by
  by_cases h : 0 ≤ n
  · obtain ⟨m, rfl⟩ := Int.eq_ofNat_of_zero_le h
    exact .inl ⟨h, txt_pos m⟩
  · obtain ⟨m, rfl⟩ : ∃ m : Nat, n = -(m : Nat) := ⟨n.natAbs, by lia⟩
    refine .inr ⟨by lia, ?_⟩
    rw [txt_neg m (by lia), show (-(m : Nat) : Int).natAbs = m by lia]
theorem txt_signs (n : Int) : ∀ c ∈ (txt n).cps.toList, c = 45 ∨ (48 ≤ c ∧ c ≤ 57) := fun c hc => by
  rcases txt_cases n with ⟨_, e⟩ | ⟨_, e⟩
  · rw [e] at hc; exact .inr (digs_all _ c hc)
  · rw [e] at hc
    rcases List.mem_cons.mp hc with q | q
    · exact .inl q
    · exact .inr (digs_all _ c q)
theorem txt_free (n : Int) : 44 ∉ (txt n).cps.toList := fun h => by
  rcases txt_signs n 44 h with q | q <;> lia
theorem ascii_of {z : Str} (h : ∀ c ∈ z.cps.toList, c < 128) : z.cps.all (· < 128) = true := by
  rw [← Array.all_toList]
  exact List.all_eq_true.mpr fun c hc => decide_eq_true (h c hc)
theorem str_len (z : Str) : z.cps.toList.length = z.length := by simp [Str.length]
theorem txt_len {n : Int} (h : n.natAbs < 10 ^ 30) : 1 ≤ (txt n).length ∧ (txt n).length ≤ 31 := by
  have g := digs_ge n.natAbs
  have l := digs_le (k := 30) (by decide) h
  rw [← str_len]
  rcases txt_cases n with ⟨_, e⟩ | ⟨_, e⟩
  · rw [e]; lia
  · rw [e, List.length_cons]; lia
def figs (n : Int) : Str := if n < 0 then L2.strFrom (txt n) 1 else txt n
theorem figs_list (n : Int) : (figs n).cps.toList = digs n.natAbs := by
  unfold figs
  rcases txt_cases n with ⟨h, e⟩ | ⟨h, e⟩
  · rw [if_neg (by lia), e]
  · rw [if_pos h]
    show (((txt n).cps.toList.drop 1).toArray).toList = _
    rw [e]; rfl
theorem starts_one (z : Str) (c : Nat) : (decide (0 + (⟨#[c]⟩ : Str).length ≤ z.length) && subAt z ⟨#[c]⟩ 0) = decide (z.cps.toList[0]? = some c) := by
  rw [Bool.eq_iff_iff, Bool.and_eq_true, decide_eq_true_eq, decide_eq_true_eq]
  exact StrLaws.subAt_one z c 0
theorem starts_minus (n : Int) : (decide (0 + (⟨#[45]⟩ : Str).length ≤ (txt n).length) && subAt (txt n) ⟨#[45]⟩ 0) = decide (n < 0) := by
  rw [starts_one]
  rcases txt_cases n with ⟨h, e⟩ | ⟨h, e⟩
  · rw [e, decide_eq_false (show ¬ n < 0 by lia)]
    refine decide_eq_false fun q => ?_
    have := digs_all n.natAbs 45 (List.mem_of_getElem? q)
    lia
  · rw [e, decide_eq_true h]; rfl
theorem starts_nought {n : Int} (h : n ≠ 0) : (decide (0 + (⟨#[48]⟩ : Str).length ≤ (figs n).length) && subAt (figs n) ⟨#[48]⟩ 0) = false := by
  rw [starts_one, figs_list]
  refine decide_eq_false fun q => ?_
  cases e : digs n.natAbs with
  | nil => rw [e] at q; simp at q
  | cons c r =>
    rw [e] at q
    have : c = 48 := by simpa using q
    subst this
    exact digs_head (m := n.natAbs) (by lia) r e
theorem txt_zero : txt 0 = ⟨#[48]⟩ := by decide
theorem in_figures {c : Nat} (h : 48 ≤ c ∧ c ≤ 57) : (!(occurrences (Str.ofString "0123456789") ⟨#[c]⟩ 0 (Str.ofString "0123456789").length 1).isEmpty) = true := by
  rw [StrLaws.found_one]
  refine decide_eq_true ?_
  obtain ⟨a, b⟩ := h
  have : c = 48 ∨ c = 49 ∨ c = 50 ∨ c = 51 ∨ c = 52 ∨ c = 53 ∨ c = 54 ∨ c = 55 ∨ c = 56 ∨ c = 57 := by lia
  rcases this with rfl | rfl | rfl | rfl | rfl | rfl | rfl | rfl | rfl | rfl <;> decide
theorem txt_reads {n : Int} (h : n.natAbs < 10 ^ 30) : intText? (txt n) = some n := by
  have l := txt_len h
  have g := digs_ge n.natAbs
  have ne : digs n.natAbs ≠ [] := fun z => by rw [z] at g; simp at g
  have v : digitsVal (digs n.natAbs) = n.natAbs := PySem.W.KIN.val_back _
  rcases txt_cases n with ⟨q, e⟩ | ⟨q, e⟩
  · rw [intText_digits (by rw [e]; exact digs_all _) (by rw [e]; exact ne) (by lia), e, v]
    congr 1; lia
  · rw [intText_neg e (digs_all _) ne (by lia), v]
    congr 1; lia
theorem cut_unique {c : Nat} : ∀ {a b r t : List Nat}, c ∉ a → c ∉ b → a ++ c :: r = b ++ c :: t → a = b ∧ r = t
  | [], [], r, t, _, _, e => ⟨rfl, (List.cons.inj e).2⟩
  | [], y :: b, r, t, _, hb, e => absurd (by rw [(List.cons.inj e).1]; exact List.mem_cons_self) hb
  | x :: a, [], r, t, ha, _, e => absurd (by rw [← (List.cons.inj e).1]; exact List.mem_cons_self) ha
  | x :: a, y :: b, r, t, ha, hb, e => by
    obtain ⟨e1, e2⟩ := List.cons.inj e
    obtain ⟨p, q⟩ := cut_unique (fun z => ha (List.mem_cons_of_mem _ z)) (fun z => hb (List.mem_cons_of_mem _ z)) e2
    exact ⟨by rw [e1, p], q⟩
theorem join_unique {c : Nat} : ∀ {as bs : List Str}, as ≠ [] → bs ≠ [] → (∀ a ∈ as, c ∉ a.cps.toList) → (∀ b ∈ bs, c ∉ b.cps.toList) → Str.join ⟨#[c]⟩ as = Str.join ⟨#[c]⟩ bs → as = bs
  | [], _, h, _, _, _, _ => absurd rfl h
  | _, [], _, h, _, _, _ => absurd rfl h
  | [a], [b], _, _, _, _, e => by rw [show a = b from e]
  | [a], b :: b2 :: t, _, _, ha, _, e => by
    have e' : a = b ++ ⟨#[c]⟩ ++ Str.join ⟨#[c]⟩ (b2 :: t) := e
    refine absurd ?_ (ha a List.mem_cons_self)
    rw [e', Str.cps_append, Str.cps_append]; simp
  | a :: a2 :: r, [b], _, _, _, hb, e => by
    have e' : a ++ ⟨#[c]⟩ ++ Str.join ⟨#[c]⟩ (a2 :: r) = b := e
    refine absurd ?_ (hb b List.mem_cons_self)
    rw [← e', Str.cps_append, Str.cps_append]; simp
  | a :: a2 :: r, b :: b2 :: t, _, _, ha, hb, e => by
    have e' : a ++ ⟨#[c]⟩ ++ Str.join ⟨#[c]⟩ (a2 :: r) = b ++ ⟨#[c]⟩ ++ Str.join ⟨#[c]⟩ (b2 :: t) := e
    have e2 := congrArg (fun z : Str => z.cps.toList) e'
    simp only [Str.cps_append, Array.toList_append, List.append_assoc] at e2
    obtain ⟨p, q⟩ := cut_unique (c := c) (ha a List.mem_cons_self) (hb b List.mem_cons_self) e2
    have ea : a = b := Str.ext' (Array.toList_inj.mp p)
    have er : Str.join ⟨#[c]⟩ (a2 :: r) = Str.join ⟨#[c]⟩ (b2 :: t) := Str.ext' (Array.toList_inj.mp q)
    rw [ea, join_unique (by simp) (by simp) (fun x hx => ha x (List.mem_cons_of_mem _ hx)) (fun x hx => hb x (List.mem_cons_of_mem _ hx)) er]
theorem split_join {ss : List Str} (h : ss ≠ []) (f : ∀ a ∈ ss, 44 ∉ a.cps.toList) : Txt.split (Txt.join ⟨#[44]⟩ ss) ⟨#[44]⟩ = ss := by
  refine join_unique (c := 44) ?_ h (StrLaws.split_free _ 44) f ?_
  · intro z
    have := split_pos (Txt.join ⟨#[44]⟩ ss) ⟨#[44]⟩
    rw [z] at this; simp at this
  · rw [StrLaws.join_split]
    exact StrLaws.glued_eq_join _ _
end Bn
namespace L2
open PySem PySem.Spec PyProof.Rows Own PySem.NumText
section
variable {X : Cx}
theorem call_intText : CallR X (.type "int") (fun vs H Q => ∃ (x : Str) (n : Int), vs = [.str x] ∧ intText? x = some n ∧ x.length ≤ 640 ∧ Q (.int n) H) := by
  rintro pins s σ H vs us Q I rv ⟨x, n, rfl, hn, h6, q⟩
  obtain ⟨u, rfl, t, rfl⟩ := rv.one
  exact PySem.W.KIN.call_text hn h6 ⟨.int _, H, I.tok _, ⟨_, rfl⟩, q⟩
end
end L2
end
section
set_option maxHeartbeats 4000001
namespace L2
open PySem PySem.Spec PyProof.Rows Own
section
variable {X : Cx}
theorem ps_dead {st : Stmt} : PS X st (fun _ _ _ => False) := fun _ _ _ _ _ _ h => h.elim
end
end L2
end
section
set_option maxHeartbeats 4000001
namespace K76
open PySem L2 Own Bn
abbrev sNumIn : Stmt := top 12
abbrev sNumsIn : Stmt := top 11
def spNumT : Sp := fun vs H Q _ => ∃ n : Int, vs = [.str (txt n)] ∧ n.natAbs < 10 ^ 30 ∧ ∀ H', Same H H' → Q (.int n) H'
theorem s_minus : Str.ofString "-" = ⟨#[45]⟩ := by decide
theorem s_nought : Str.ofString "0" = ⟨#[48]⟩ := by decide
theorem s_comma : Str.ofString "," = ⟨#[44]⟩ := by decide
theorem trues (n : Nat) : ((List.replicate n true)).all id = true := by
  rw [List.all_eq_true]; intro x hx; rw [(List.mem_replicate.mp hx).2]; rfl
section
variable {P : Program} {w : World} {K : PySem.W.Frag} {mg : Str → Option Value} {base : Heap}
theorem scNi : FnScope ["word", "figures"] ["word"] (defScope sNumIn) := ⟨rfl, rfl, rfl, by decide +kernel, rfl, by decide +kernel, by decide +kernel⟩
theorem ok_numt {f : Addr} {fd : FuncData} {tk tk2 : Tok} (F : Fun K "number_in" "number_in" sNumIn f fd) (G : Mgs mg) (hM : mg "MOST_FIGURES" = some (.int 30 tk)) (hF : mg "FIGURES" = some (.str (Str.ofString "0123456789") tk2)) : FnOk P w K mg base CX0 1 f fd ["word"] (spNumT) := by
  refine F.ok scNi (fun vs H Q E h => ?_) (fun cdv A outer s H vs Q E hr h => ?_)
  · obtain ⟨n, rfl, _⟩ := h
    rfl
  obtain ⟨n, rfl, hn, k⟩ := h
  refine ⟨_, (@pss_cons _ _ _ _ _ (@ps_set _ _ 1 _ _ _ _ scNi.nd rfl (Or.inl rfl) (@pe_ifExp _ _ _ _ _ _ _ _ (@pt_val _ _ _ (@pe_bm _ _ _ _ _ _ _ _ _ _ _ _ PySem.F.plainAttrs_str PySem.F.slot_str_startswith PySem.F.type_str_startswith mt_starts (@pv _ 0 _ _ (by rfl) (by first | exact Or.inl rfl | exact Or.inr (Or.inl rfl) | exact Or.inr (Or.inr rfl)) (by decide) (by decide)) (@pa_cons _ _ _ _ _ pe_str pa_nil (by rfl)) (by rfl) (by rfl) (by rfl) (by rfl) (by rfl)) (by intro _; rfl)) (@pe_slice _ _ _ _ _ _ _ _ _ _ sl_strFrom (@pv _ 0 _ _ (by rfl) (by first | exact Or.inl rfl | exact Or.inr (Or.inl rfl) | exact Or.inr (Or.inr rfl)) (by decide) (by decide)) (@po_some _ _ _ pe_int) po_none) (@pv _ 0 _ _ (by rfl) (by first | exact Or.inl rfl | exact Or.inr (Or.inl rfl) | exact Or.inr (Or.inr rfl)) (by decide) (by decide))) (by rfl) (by first | exact .inl rfl | exact .inr rfl | assumption)) (@pss_cons _ _ _ _ _ (@ps_if _ _ _ _ _ _ _ _ (PW.pt (@pw_or _ _ _ _ _ _ _ (@pt_not _ _ _ _ (@pt_chain _ _ _ _ _ _ _ _ _ _ _ _ op_le op_le pe_int (@pe_callB _ _ _ _ _ _ _ _ _ call_len_str (by rfl) G.len PySem.boot_len (@pa_cons _ _ _ _ _ (@pv _ 1 _ _ (by rfl) (by first | exact Or.inl rfl | exact Or.inr (Or.inl rfl) | exact Or.inr (Or.inr rfl)) (by decide) (by decide)) pa_nil (by rfl)) (by decide) (by decide) (by rfl) (by rfl)) (@pe_glob _ _ (.int 30) _ _ (by rfl) @hM ⟨_, rfl⟩ (by decide)) (by with_unfolding_all rfl))) (@pw_or1 _ _ _ _ (@pt_not _ _ _ _ (@pt_val _ _ _ (@pe_callB _ _ _ _ _ _ _ _ _ (call_allB rfl true) (by rfl) G.all (by rfl) (@pa_cons _ _ _ _ _ (@pe_lc _ _ _ _ none _ _ _ _ _ _ ["sign"] [none] rfl (@pi_str _ _ _ _ (@pv _ 1 _ _ (by rfl) (by first | exact Or.inl rfl | exact Or.inr (Or.inl rfl) | exact Or.inr (Or.inr rfl)) (by decide) (by decide))) (CapOk.of (by kernel_rfl)) (fun _ _ _ _ _ => (@pg_name _ _ 0 _ (show (["sign"] : List Str).Nodup from by decide +kernel) rfl (Or.inl rfl) (Or.inr rfl))) (fun _ _ _ _ _ => pt_none) (fun _ _ _ _ _ => (@pe_cmpR _ _ _ _ _ _ _ _ op_in_str (@pv _ 0 _ _ (by rfl) (by first | exact Or.inl rfl | exact Or.inr (Or.inl rfl) | exact Or.inr (Or.inr rfl)) (by decide) (by decide)) (@pe_glob _ _ (.str (Str.ofString "0123456789")) _ _ (by rfl) @hF ⟨_, rfl⟩ (by decide)) (by rfl))) (by intro _; rfl)) pa_nil (by rfl)) (by decide) (by decide) (by rfl) (by rfl)) (by intro _; rfl)))))) (@pss_one _ _ _ (@ps_ret _ _ _ _ pe_non)) pss_nil) (@pss_cons _ _ _ _ _ (@ps_if _ _ _ _ _ _ _ _ (PW.pt (@pw_and _ _ _ _ _ _ _ (@pt_val _ _ _ (@pe_bm _ _ _ _ _ _ _ _ _ _ _ _ PySem.F.plainAttrs_str PySem.F.slot_str_startswith PySem.F.type_str_startswith mt_starts (@pv _ 1 _ _ (by rfl) (by first | exact Or.inl rfl | exact Or.inr (Or.inl rfl) | exact Or.inr (Or.inr rfl)) (by decide) (by decide)) (@pa_cons _ _ _ _ _ pe_str pa_nil (by rfl)) (by rfl) (by rfl) (by rfl) (by rfl) (by rfl)) (by intro _; rfl)) (@pw_and1 _ _ _ _ (@pt_cmpR _ _ _ _ _ _ _ _ op_ne (@pv _ 0 _ _ (by rfl) (by first | exact Or.inl rfl | exact Or.inr (Or.inl rfl) | exact Or.inr (Or.inr rfl)) (by decide) (by decide)) pe_str (nomark _))))) (@pss_one _ _ _ (@ps_ret _ _ _ _ pe_non)) pss_nil) (@pss_one _ _ _ (@ps_ret _ _ _ _ (@pe_callTy _ _ _ _ _ _ _ _ _ call_intText (by rfl) G.int (by rfl) (@pa_cons _ _ _ _ _ (@pv _ 0 _ _ (by rfl) (by first | exact Or.inl rfl | exact Or.inr (Or.inl rfl) | exact Or.inr (Or.inr rfl)) (by decide) (by decide)) pa_nil (by rfl)) (by decide) (by decide) (by rfl) (by rfl))))))), ?_⟩
  have tl := txt_len hn
  have g1 := digs_ge n.natAbs
  have g2 := digs_le (k := 30) (by decide) hn
  refine ⟨_, rfl, rfl, _, _, rfl, rfl, _, rfl, ?_⟩
  rw [s_minus, starts_minus]
  by_cases h : n < 0
  · rw [decide_eq_true h]
    refine iteT ⟨_, rfl, _, rfl, txt n, 1, rfl, rfl, rfl, by lia, by rw [sizeLine_eq]; lia, ?_⟩
    have zl : (strFrom (txt n) 1).cps.toList = digs n.natAbs := by have := figs_list n; unfold figs at this; rwa [if_pos h] at this
    have gl : (strFrom (txt n) 1).length = (digs n.natAbs).length := by rw [← str_len, zl]
    have asc : (strFrom (txt n) 1).cps.all (· < 128) = true := ascii_of fun c hc => by
      rw [zl] at hc
      have := digs_all _ c hc
      lia
    have sl : (strFrom (txt n) 1).length ≤ sizeLine := by rw [sizeLine_eq]; lia
    refine ⟨_, rfl, _, rfl, sl, _, _, rfl, rfl, _, rfl, ?_⟩
    rw [decide_eq_true (show (1 : Int) ≤ (((strFrom (txt n) 1).length : Nat) : Int) by lia)]
    refine iteT ⟨_, _, rfl, rfl, _, rfl, ?_⟩
    rw [decide_eq_true (show (((strFrom (txt n) 1).length : Nat) : Int) ≤ 30 by lia)]
    refine iteF ⟨_, rfl, _, rfl, asc, fun l hl => ?_⟩
    refine lc_str (z := strFrom (txt n) 1) (fun i acc σ H2 => (∃ v, σ = [v]) ∧ Same H H2 ∧ H2 l = some (.lst acc) ∧ acc = (List.replicate i true).map V.bl) ⟨⟨_, rfl⟩, same_new hl _, upd_same, rfl⟩ (fun i acc σ H2 q => q.2.2.1) ?_ ?_
    · rintro i c acc σ H2 hc ⟨⟨v, rfl⟩, s2, h2, rfl⟩
      have il : i < (strFrom (txt n) 1).length := (Array.getElem?_eq_some_iff.mp hc).1
      have cd := digs_all n.natAbs c (by rw [← zl]; exact List.mem_of_getElem? (by rw [Array.getElem?_toList]; exact hc))
      refine ⟨_, rfl, _, _, rfl, rfl, ?_⟩
      rw [in_figures cd]
      refine ⟨h2, ?_, nx il ⟨⟨_, rfl⟩, fun b o e => ?_, upd_same, ?_⟩⟩
      · rw [List.length_map, List.length_replicate, sizeLine_eq]; lia
      · rw [upd_ne (ne_of_none e hl)]; exact s2 b o e
      · rw [List.replicate_succ', List.map_append]; rfl
    rintro acc σ H2 ⟨⟨v, rfl⟩, s2, h2, rfl⟩
    refine ⟨l, _, rfl, SqL.of h2, _, rfl, ?_⟩
    rw [trues]
    refine iteF ⟨_, rfl, rfl, _, _, rfl, rfl, _, rfl, ?_⟩
    rw [s_nought]
    by_cases z : n = 0
    · exact absurd h (by lia)
    · have sn := starts_nought z
      rw [show figs n = strFrom (txt n) 1 from by unfold figs; rw [if_pos h]] at sn
      rw [sn]
      refine iteF ?_
      exact ⟨_, rfl, _, n, rfl, txt_reads hn, by lia, k H2 s2⟩
  · rw [decide_eq_false h]
    refine iteF ⟨_, rfl, ?_⟩
    have zl : (txt n).cps.toList = digs n.natAbs := by have := figs_list n; unfold figs at this; rwa [if_neg h] at this
    have gl : (txt n).length = (digs n.natAbs).length := by rw [← str_len, zl]
    have asc : (txt n).cps.all (· < 128) = true := ascii_of fun c hc => by
      rw [zl] at hc
      have := digs_all _ c hc
      lia
    have sl : (txt n).length ≤ sizeLine := by rw [sizeLine_eq]; lia
    refine ⟨_, rfl, _, rfl, sl, _, _, rfl, rfl, _, rfl, ?_⟩
    rw [decide_eq_true (show (1 : Int) ≤ (((txt n).length : Nat) : Int) by lia)]
    refine iteT ⟨_, _, rfl, rfl, _, rfl, ?_⟩
    rw [decide_eq_true (show (((txt n).length : Nat) : Int) ≤ 30 by lia)]
    refine iteF ⟨_, rfl, _, rfl, asc, fun l hl => ?_⟩
    refine lc_str (z := txt n) (fun i acc σ H2 => (∃ v, σ = [v]) ∧ Same H H2 ∧ H2 l = some (.lst acc) ∧ acc = (List.replicate i true).map V.bl) ⟨⟨_, rfl⟩, same_new hl _, upd_same, rfl⟩ (fun i acc σ H2 q => q.2.2.1) ?_ ?_
    · rintro i c acc σ H2 hc ⟨⟨v, rfl⟩, s2, h2, rfl⟩
      have il : i < (txt n).length := (Array.getElem?_eq_some_iff.mp hc).1
      have cd := digs_all n.natAbs c (by rw [← zl]; exact List.mem_of_getElem? (by rw [Array.getElem?_toList]; exact hc))
      refine ⟨_, rfl, _, _, rfl, rfl, ?_⟩
      rw [in_figures cd]
      refine ⟨h2, ?_, nx il ⟨⟨_, rfl⟩, fun b o e => ?_, upd_same, ?_⟩⟩
      · rw [List.length_map, List.length_replicate, sizeLine_eq]; lia
      · rw [upd_ne (ne_of_none e hl)]; exact s2 b o e
      · rw [List.replicate_succ', List.map_append]; rfl
    rintro acc σ H2 ⟨⟨v, rfl⟩, s2, h2, rfl⟩
    refine ⟨l, _, rfl, SqL.of h2, _, rfl, ?_⟩
    rw [trues]
    refine iteF ⟨_, rfl, rfl, _, _, rfl, rfl, _, rfl, ?_⟩
    rw [s_nought]
    by_cases z : n = 0
    · subst z
      rw [show (decide (0 + (⟨#[48]⟩ : Str).length ≤ (txt 0).length) && Builtin.Str.subAt (txt 0) ⟨#[48]⟩ 0) = true from by rw [starts_one, txt_zero]; decide]
      refine iteT ⟨_, rfl, rfl, _, rfl, ?_⟩
      rw [show (!decide (V.str (txt 0) = V.str ⟨#[48]⟩)) = false from by rw [txt_zero, decide_eq_true rfl]; rfl]
      refine iteF ?_
      exact ⟨_, rfl, _, 0, rfl, txt_reads hn, by lia, k H2 s2⟩
    · have sn := starts_nought z
      rw [show figs n = txt n from by unfold figs; rw [if_neg h]] at sn
      rw [sn]
      refine iteF ?_
      exact ⟨_, rfl, _, n, rfl, txt_reads hn, by lia, k H2 s2⟩
theorem scNs : FnScope ["words"] ["words"] (defScope sNumsIn) := ⟨rfl, rfl, rfl, by decide +kernel, rfl, by decide +kernel, by decide +kernel⟩
end
end K76
end
section
set_option maxHeartbeats 4000001
namespace K76
open PySem L2 Own Bn
def figB (c : Nat) : Bool := decide (48 ≤ c) && decide (c ≤ 57)
def figsOf (z : Str) : Str := if z.cps.toList[0]? = some 45 then strFrom z 1 else z
def badW (z : Str) : Bool := !(decide (1 ≤ (figsOf z).length) && decide ((figsOf z).length ≤ 30)) || !(figsOf z).cps.toList.all figB || (decide ((figsOf z).cps.toList[0]? = some 48) && decide (z ≠ ⟨#[48]⟩))
def spNumB : Sp := fun vs H Q _ => ∃ z : Str, vs = [.str z] ∧ badW z = true ∧ (∀ c ∈ z.cps.toList, c < 128) ∧ z.length ≤ 1000 ∧ ∀ H', Same H H' → Q .non H'
theorem fig_is {c : Nat} : (!(Builtin.Str.occurrences (Str.ofString "0123456789") ⟨#[c]⟩ 0 (Str.ofString "0123456789").length 1).isEmpty) = figB c := by
  rw [StrLaws.found_one]
  have e : (Str.ofString "0123456789").cps.toList = [48, 49, 50, 51, 52, 53, 54, 55, 56, 57] := by decide
  unfold figB
  rw [e, Bool.eq_iff_iff, decide_eq_true_iff, Bool.and_eq_true, decide_eq_true_iff, decide_eq_true_iff]
  simp only [List.mem_cons, List.mem_nil_iff, or_false]
  have all : ∀ d : Nat, d < 10 → 48 + d = 48 ∨ 48 + d = 49 ∨ 48 + d = 50 ∨ 48 + d = 51 ∨ 48 + d = 52 ∨ 48 + d = 53 ∨ 48 + d = 54 ∨ 48 + d = 55 ∨ 48 + d = 56 ∨ 48 + d = 57 := by decide
  refine ⟨fun h => ?_, fun h => ?_⟩
  · rcases h with rfl | rfl | rfl | rfl | rfl | rfl | rfl | rfl | rfl | rfl <;> decide
  · obtain ⟨d, rfl⟩ : ∃ d, c = 48 + d := ⟨c - 48, by lia⟩
    exact all d (by lia)
theorem take_len (z : Str) : z.cps.toList.take z.length = z.cps.toList := List.take_of_length_le (by rw [Array.length_toList]; exact Nat.le_refl _)
theorem all_id (l : List Nat) : (l.map figB).all id = l.all figB := by rw [List.all_map]; rfl
section
variable {P : Program} {w : World} {K : PySem.W.Frag} {mg : Str → Option Value} {base : Heap}
theorem ok_numb {f : Addr} {fd : FuncData} {tk tk2 : Tok} (F : Fun K "number_in" "number_in" sNumIn f fd) (G : Mgs mg) (hM : mg "MOST_FIGURES" = some (.int 30 tk)) (hF : mg "FIGURES" = some (.str (Str.ofString "0123456789") tk2)) : FnOk P w K mg base CX0 1 f fd ["word"] spNumB := by
  refine F.ok scNi (fun vs H Q E h => ?_) (fun cdv A outer s H vs Q E hr h => ?_)
  · obtain ⟨z, rfl, _⟩ := h
    rfl
  obtain ⟨z, rfl, hb, asc, hl0, k⟩ := h
  refine ⟨_, (@pss_cons _ _ _ _ _ (@ps_set _ _ 1 _ _ _ _ scNi.nd rfl (Or.inl rfl) (@pe_ifExp _ _ _ _ _ _ _ _ (@pt_val _ _ _ (@pe_bm _ _ _ _ _ _ _ _ _ _ _ _ PySem.F.plainAttrs_str PySem.F.slot_str_startswith PySem.F.type_str_startswith mt_starts (@pv _ 0 _ _ (by rfl) (by first | exact Or.inl rfl | exact Or.inr (Or.inl rfl) | exact Or.inr (Or.inr rfl)) (by decide) (by decide)) (@pa_cons _ _ _ _ _ pe_str pa_nil (by rfl)) (by rfl) (by rfl) (by rfl) (by rfl) (by rfl)) (by intro _; rfl)) (@pe_slice _ _ _ _ _ _ _ _ _ _ sl_strFrom (@pv _ 0 _ _ (by rfl) (by first | exact Or.inl rfl | exact Or.inr (Or.inl rfl) | exact Or.inr (Or.inr rfl)) (by decide) (by decide)) (@po_some _ _ _ pe_int) po_none) (@pv _ 0 _ _ (by rfl) (by first | exact Or.inl rfl | exact Or.inr (Or.inl rfl) | exact Or.inr (Or.inr rfl)) (by decide) (by decide))) (by rfl) (by first | exact .inl rfl | exact .inr rfl | assumption)) (@pss_cons _ _ _ _ _ (@ps_if _ _ _ _ _ _ _ _ (PW.pt (@pw_or _ _ _ _ _ _ _ (@pt_not _ _ _ _ (@pt_chain _ _ _ _ _ _ _ _ _ _ _ _ op_le op_le pe_int (@pe_callB _ _ _ _ _ _ _ _ _ call_len_str (by rfl) G.len PySem.boot_len (@pa_cons _ _ _ _ _ (@pv _ 1 _ _ (by rfl) (by first | exact Or.inl rfl | exact Or.inr (Or.inl rfl) | exact Or.inr (Or.inr rfl)) (by decide) (by decide)) pa_nil (by rfl)) (by decide) (by decide) (by rfl) (by rfl)) (@pe_glob _ _ (.int 30) _ _ (by rfl) @hM ⟨_, rfl⟩ (by decide)) (by with_unfolding_all rfl))) (@pw_or1 _ _ _ _ (@pt_not _ _ _ _ (@pt_val _ _ _ (@pe_callB _ _ _ _ _ _ _ _ _ (call_allB rfl true) (by rfl) G.all (by rfl) (@pa_cons _ _ _ _ _ (@pe_lc _ _ _ _ none _ _ _ _ _ _ ["sign"] [none] rfl (@pi_str _ _ _ _ (@pv _ 1 _ _ (by rfl) (by first | exact Or.inl rfl | exact Or.inr (Or.inl rfl) | exact Or.inr (Or.inr rfl)) (by decide) (by decide))) (CapOk.of (by kernel_rfl)) (fun _ _ _ _ _ => (@pg_name _ _ 0 _ (show (["sign"] : List Str).Nodup from by decide +kernel) rfl (Or.inl rfl) (Or.inr rfl))) (fun _ _ _ _ _ => pt_none) (fun _ _ _ _ _ => (@pe_cmpR _ _ _ _ _ _ _ _ op_in_str (@pv _ 0 _ _ (by rfl) (by first | exact Or.inl rfl | exact Or.inr (Or.inl rfl) | exact Or.inr (Or.inr rfl)) (by decide) (by decide)) (@pe_glob _ _ (.str (Str.ofString "0123456789")) _ _ (by rfl) @hF ⟨_, rfl⟩ (by decide)) (by rfl))) (by intro _; rfl)) pa_nil (by rfl)) (by decide) (by decide) (by rfl) (by rfl)) (by intro _; rfl)))))) (@pss_one _ _ _ (@ps_ret _ _ _ _ pe_non)) pss_nil) (@pss_cons _ _ _ _ _ (@ps_if _ _ _ _ _ _ _ _ (PW.pt (@pw_and _ _ _ _ _ _ _ (@pt_val _ _ _ (@pe_bm _ _ _ _ _ _ _ _ _ _ _ _ PySem.F.plainAttrs_str PySem.F.slot_str_startswith PySem.F.type_str_startswith mt_starts (@pv _ 1 _ _ (by rfl) (by first | exact Or.inl rfl | exact Or.inr (Or.inl rfl) | exact Or.inr (Or.inr rfl)) (by decide) (by decide)) (@pa_cons _ _ _ _ _ pe_str pa_nil (by rfl)) (by rfl) (by rfl) (by rfl) (by rfl) (by rfl)) (by intro _; rfl)) (@pw_and1 _ _ _ _ (@pt_cmpR _ _ _ _ _ _ _ _ op_ne (@pv _ 0 _ _ (by rfl) (by first | exact Or.inl rfl | exact Or.inr (Or.inl rfl) | exact Or.inr (Or.inr rfl)) (by decide) (by decide)) pe_str (nomark _))))) (@pss_one _ _ _ (@ps_ret _ _ _ _ pe_non)) pss_nil) (@pss_one _ _ _ (@ps_ret _ _ _ _ (@pe_callTy _ _ _ _ _ _ _ _ _ call_intText (by rfl) G.int (by rfl) (@pa_cons _ _ _ _ _ (@pv _ 0 _ _ (by rfl) (by first | exact Or.inl rfl | exact Or.inr (Or.inl rfl) | exact Or.inr (Or.inr rfl)) (by decide) (by decide)) pa_nil (by rfl)) (by decide) (by decide) (by rfl) (by rfl))))))), ?_⟩
  refine ⟨_, rfl, rfl, _, _, rfl, rfl, _, rfl, ?_⟩
  rw [s_minus, starts_one]
  by_cases h : z.cps.toList[0]? = some 45
  · rw [decide_eq_true h]
    have zl1 : 1 ≤ z.length := by
      obtain ⟨q, _⟩ := List.getElem?_eq_some_iff.mp h
      rw [Array.length_toList] at q; exact q
    have hf : figsOf z = strFrom z 1 := by unfold figsOf; rw [if_pos h]
    have fl : (strFrom z 1).cps.toList = z.cps.toList.drop 1 := rfl
    refine iteT ⟨_, rfl, _, rfl, z, 1, rfl, rfl, rfl, by lia, by rw [sizeLine_eq]; lia, ?_⟩
    have zlen : (strFrom z 1).length ≤ 1000 := by rw [← str_len, fl, List.length_drop, str_len]; lia
    refine ⟨_, rfl, _, rfl, by rw [sizeLine_eq]; lia, _, _, rfl, rfl, _, rfl, ?_⟩
    by_cases l1 : 1 ≤ (strFrom z 1).length
    · rw [decide_eq_true (show (1 : Int) ≤ (((strFrom z 1).length : Nat) : Int) by lia)]
      refine iteT ⟨_, _, rfl, rfl, _, rfl, ?_⟩
      by_cases l30 : (strFrom z 1).length ≤ 30
      · rw [decide_eq_true (show (((strFrom z 1).length : Nat) : Int) ≤ 30 by lia)]
        refine iteF ⟨_, rfl, _, rfl, ascii_of fun c hc => asc c (by rw [fl] at hc; exact List.mem_of_mem_drop hc), fun l hl => ?_⟩
        refine lc_str (z := (strFrom z 1)) (fun i acc σ H2 => (∃ v, σ = [v]) ∧ Same H H2 ∧ H2 l = some (.lst acc) ∧ acc = (((strFrom z 1).cps.toList.take i).map figB).map V.bl) ⟨⟨_, rfl⟩, same_new hl _, upd_same, by rw [List.take_zero]; rfl⟩ (fun i acc σ H2 q => q.2.2.1) ?_ ?_
        · rintro i c acc σ H2 hc ⟨⟨v, rfl⟩, s2, h2, rfl⟩
          have il : i < (strFrom z 1).length := (Array.getElem?_eq_some_iff.mp hc).1
          have ic : (strFrom z 1).cps.toList[i]? = some c := by rw [Array.getElem?_toList]; exact hc
          refine ⟨_, rfl, _, _, rfl, rfl, ?_⟩
          rw [fig_is]
          refine ⟨h2, ?_, nx il ⟨⟨_, rfl⟩, fun b o e => ?_, upd_same, ?_⟩⟩
          · rw [List.length_map, List.length_map, List.length_take, sizeLine_eq]; lia
          · rw [upd_ne (ne_of_none e hl)]; exact s2 b o e
          · rw [List.take_succ, ic, List.map_append, List.map_append]; rfl
        rintro acc σ H2 ⟨⟨v, rfl⟩, s2, h2, rfl⟩
        refine ⟨l, _, rfl, SqL.of h2, _, rfl, ?_⟩
        rw [take_len, all_id]
        cases al : (strFrom z 1).cps.toList.all figB with
        | false => exact iteT (k H2 s2)
        | true =>
          refine iteF ⟨_, rfl, rfl, _, _, rfl, rfl, _, rfl, ?_⟩
          rw [s_nought, starts_one]
          unfold badW at hb
          rw [hf, al, decide_eq_true l1, decide_eq_true l30] at hb
          have hb2 : (strFrom z 1).cps.toList[0]? = some 48 ∧ z ≠ ⟨#[48]⟩ := by simpa using hb
          rw [decide_eq_true hb2.1]
          refine iteT ⟨_, rfl, rfl, _, rfl, ?_⟩
          rw [decide_eq_false (fun q => hb2.2 (V.str.inj q))]
          exact iteT (k H2 s2)
      · rw [decide_eq_false (show ¬ (((strFrom z 1).length : Nat) : Int) ≤ 30 by lia)]
        exact iteT (k H (Same.refl H))
    · rw [decide_eq_false (show ¬ (1 : Int) ≤ (((strFrom z 1).length : Nat) : Int) by lia)]
      exact iteF ⟨_, rfl, iteT (k H (Same.refl H))⟩
  · rw [decide_eq_false h]
    have hf : figsOf z = z := by unfold figsOf; rw [if_neg h]
    refine iteF ⟨_, rfl, ?_⟩
    have zlen : z.length ≤ 1000 := hl0
    refine ⟨_, rfl, _, rfl, by rw [sizeLine_eq]; lia, _, _, rfl, rfl, _, rfl, ?_⟩
    by_cases l1 : 1 ≤ z.length
    · rw [decide_eq_true (show (1 : Int) ≤ ((z.length : Nat) : Int) by lia)]
      refine iteT ⟨_, _, rfl, rfl, _, rfl, ?_⟩
      by_cases l30 : z.length ≤ 30
      · rw [decide_eq_true (show ((z.length : Nat) : Int) ≤ 30 by lia)]
        refine iteF ⟨_, rfl, _, rfl, ascii_of asc, fun l hl => ?_⟩
        refine lc_str (z := z) (fun i acc σ H2 => (∃ v, σ = [v]) ∧ Same H H2 ∧ H2 l = some (.lst acc) ∧ acc = ((z.cps.toList.take i).map figB).map V.bl) ⟨⟨_, rfl⟩, same_new hl _, upd_same, by rw [List.take_zero]; rfl⟩ (fun i acc σ H2 q => q.2.2.1) ?_ ?_
        · rintro i c acc σ H2 hc ⟨⟨v, rfl⟩, s2, h2, rfl⟩
          have il : i < z.length := (Array.getElem?_eq_some_iff.mp hc).1
          have ic : z.cps.toList[i]? = some c := by rw [Array.getElem?_toList]; exact hc
          refine ⟨_, rfl, _, _, rfl, rfl, ?_⟩
          rw [fig_is]
          refine ⟨h2, ?_, nx il ⟨⟨_, rfl⟩, fun b o e => ?_, upd_same, ?_⟩⟩
          · rw [List.length_map, List.length_map, List.length_take, sizeLine_eq]; lia
          · rw [upd_ne (ne_of_none e hl)]; exact s2 b o e
          · rw [List.take_succ, ic, List.map_append, List.map_append]; rfl
        rintro acc σ H2 ⟨⟨v, rfl⟩, s2, h2, rfl⟩
        refine ⟨l, _, rfl, SqL.of h2, _, rfl, ?_⟩
        rw [take_len, all_id]
        cases al : z.cps.toList.all figB with
        | false => exact iteT (k H2 s2)
        | true =>
          refine iteF ⟨_, rfl, rfl, _, _, rfl, rfl, _, rfl, ?_⟩
          rw [s_nought, starts_one]
          unfold badW at hb
          rw [hf, al, decide_eq_true l1, decide_eq_true l30] at hb
          have hb2 : z.cps.toList[0]? = some 48 ∧ z ≠ ⟨#[48]⟩ := by simpa using hb
          rw [decide_eq_true hb2.1]
          refine iteT ⟨_, rfl, rfl, _, rfl, ?_⟩
          rw [decide_eq_false (fun q => hb2.2 (V.str.inj q))]
          exact iteT (k H2 s2)
      · rw [decide_eq_false (show ¬ ((z.length : Nat) : Int) ≤ 30 by lia)]
        exact iteT (k H (Same.refl H))
    · rw [decide_eq_false (show ¬ (1 : Int) ≤ ((z.length : Nat) : Int) by lia)]
      exact iteF ⟨_, rfl, iteT (k H (Same.refl H))⟩
end
end K76
end
section
set_option maxHeartbeats 4000001
namespace K76
open PySem L2 Own Bn
abbrev Wd := Sum Int Str
def wdT : Wd → Str
  | .inl n => txt n
  | .inr z => z
def wdV : Wd → V
  | .inl n => .int n
  | .inr _ => .non
def OkW : Wd → Prop
  | .inl n => n.natAbs < 10 ^ 30
  | .inr z => badW z = true ∧ (∀ c ∈ z.cps.toList, c < 128) ∧ z.length ≤ 1000 ∧ ∀ c ∈ z.cps.toList, c ≠ 44
def spNumW : Sp := fun vs H Q _ => ∃ x : Wd, vs = [.str (wdT x)] ∧ OkW x ∧ ∀ H', Same H H' → Q (wdV x) H'
def spNumsW : Sp := fun vs H Q _ => ∃ (l : Addr) (xs : List Wd), vs = [.ref l] ∧ H l = some (.lst (xs.map fun x => V.str (wdT x))) ∧ xs.length ≤ 1000 ∧ (∀ x ∈ xs, OkW x) ∧ ∀ p H', Same H H' → H' p = some (.tup (xs.map wdV)) → Q (.ref p) H'
def someBad (xs : List Wd) : Bool := xs.any fun | .inl _ => false | .inr _ => true
theorem wd_len {x : Wd} (h : OkW x) : (wdT x).length ≤ 1000 := by
  cases x with
  | inl n => exact Nat.le_trans (txt_len h).2 (by decide)
  | inr z => exact h.2.2.1
section
variable {P : Program} {w : World} {K : PySem.W.Frag} {mg : Str → Option Value} {base : Heap}
theorem ok_numw {f : Addr} {fd : FuncData} {tk tk2 : Tok} (F : Fun K "number_in" "number_in" sNumIn f fd) (G : Mgs mg) (hM : mg "MOST_FIGURES" = some (.int 30 tk)) (hF : mg "FIGURES" = some (.str (Str.ofString "0123456789") tk2)) : FnOk P w K mg base CX0 1 f fd ["word"] spNumW := by
  have A := ok_numt (P := P) (w := w) (base := base) F G hM hF
  have B := ok_numb (P := P) (w := w) (base := base) F G hM hF
  refine ⟨fun vs H Q E h => ?_, fun A' outer s H args us vs Q E hr e0 hb r h => ?_⟩
  · obtain ⟨x, rfl, _⟩ := h
    rfl
  · obtain ⟨x, rfl, ok, k⟩ := h
    cases x with
    | inl n => exact A.run A' outer s H args us _ Q E hr e0 hb r ⟨n, rfl, ok, k⟩
    | inr z => exact B.run A' outer s H args us _ Q E hr e0 hb r ⟨z, rfl, ok.1, ok.2.1, ok.2.2.1, k⟩
theorem ok_numsw {f fN : Addr} {fd dN : FuncData} (F : Fun K "numbers_in" "numbers_in" sNumsIn f fd) (G : Mgs mg) (UN : Use P w K mg base "number_in" ["word"] 1 spNumW fN dN) : FnOk P w K mg base CX0 2 f fd ["words"] spNumsW := by
  refine F.ok scNs (fun vs H Q E h => ?_) (fun cdv A outer s H vs Q E hr h => ?_)
  · obtain ⟨l, xs, rfl, _⟩ := h
    rfl
  obtain ⟨l, xs, rfl, hl, l1000, ok, k⟩ := h
  refine ⟨_, (@pss_one _ _ _ (@ps_ret _ _ _ _ (@pe_callTy _ _ _ _ _ _ _ _ _ call_tuple_of (by rfl) G.tuple (by rfl) (@pa_cons _ _ _ _ _ (@pe_lc _ _ _ _ none _ _ _ _ _ _ ["word"] [none] rfl (@pi_list _ _ _ _ (@pv _ 0 _ _ (by rfl) (by first | exact Or.inl rfl | exact Or.inr (Or.inl rfl) | exact Or.inr (Or.inr rfl)) (by decide) (by decide))) (CapOk.of (by kernel_rfl)) (fun _ _ _ _ _ => (@pg_name _ _ 0 _ (show (["word"] : List Str).Nodup from by decide +kernel) rfl (Or.inl rfl) (Or.inr rfl))) (fun _ _ _ _ _ => pt_none) (fun _ _ _ _ _ => (@pe_call _ _ _ _ _ _ _ _ _ _ _ _ _ _ _ _ UN.ok hr (by rfl) UN.m UN.kp UN.b .nil pass0 (@pa_cons _ _ _ _ _ (@pv _ 0 _ _ (by rfl) (by first | exact Or.inl rfl | exact Or.inr (Or.inl rfl) | exact Or.inr (Or.inr rfl)) (by decide) (by decide)) pa_nil (by rfl)) (by decide) (by rfl) (by rfl))) (by intro _; rfl)) pa_nil (by rfl)) (by decide) (by decide) (by rfl) (by rfl)))), ?_⟩
  refine ⟨_, rfl, l, rfl, ⟨_, SqL.of hl⟩, fun lq hlq => ?_⟩
  refine lc_list (K := K) (a := l) (xs := xs.map fun x => V.str (wdT x)) (fun j acc σ H2 => (∃ v, σ = [v]) ∧ Same H H2 ∧ H2 lq = some (.lst acc) ∧ acc = (xs.take j).map wdV) ⟨⟨_, rfl⟩, same_new hlq _, upd_same, by rw [List.take_zero]; rfl⟩ (fun j acc σ H2 q => ⟨q.2.2.1, SqL.of (q.2.1 _ _ hl)⟩) ?_ ?_
  · rintro j x acc σ H2 hx ⟨⟨v, rfl⟩, s2, h2, rfl⟩
    have jl : j < xs.length := by have := (List.getElem?_eq_some_iff.mp hx).1; rwa [List.length_map] at this
    rw [List.getElem?_map, List.getElem?_eq_getElem jl] at hx
    obtain rfl := Option.some.inj hx
    refine ⟨_, rfl, xs[j], rfl, ok _ (List.getElem_mem jl), fun H3 s3 => ?_⟩
    refine ⟨s3 _ _ h2, by rw [List.length_map, List.length_take, sizeLine_eq]; lia, nx (by rw [List.length_map]; exact jl) ⟨⟨_, rfl⟩, fun b o e => ?_, upd_same, ?_⟩⟩
    · rw [upd_ne (ne_of_none e hlq)]; exact (s2.trans s3) b o e
    · rw [List.take_succ_eq_append_getElem jl, List.map_append]; rfl
  rintro acc σ H2 ⟨⟨v, rfl⟩, s2, h2, rfl⟩
  rw [List.length_map, List.take_length] at h2
  refine ⟨lq, _, rfl, .inl ⟨SqL.of h2, fun p hp => ?_⟩⟩
  exact k p _ (s2.trans (same_new hp _)) upd_same
end
end K76
end
section
set_option maxHeartbeats 4000001
namespace K76
open PySem L2 Own Bn
abbrev sTake : Stmt := top 15
structure StAt (H : Hp) (l : Addr) (n : Nat) : Prop where
  ex : ∃ a b c : Int, H l = some (.lst [.int a, .int b, .int c]) ∧ 0 ≤ a ∧ 0 ≤ b ∧ b < 2 ^ 62 ∧ 0 ≤ c ∧ c ≤ n
theorem StAt.mono {H : Hp} {l : Addr} {n m : Nat} (h : StAt H l n) (k : n ≤ m) : StAt H l m := by
  obtain ⟨a, b, c, h1, h2, h3, h4, h5, h6⟩ := h.ex
  exact ⟨a, b, c, h1, h2, h3, h4, h5, by lia⟩
def spTake (_K : PySem.W.Frag) : Sp := fun vs H Q _ => ∃ (l : Addr) (m : Int) (n : Nat), vs = [.ref l, .int m] ∧ 0 < m ∧ m < 1073741824 ∧ StAt H l n ∧ n < 2 ^ 60 ∧
  ∀ v H', 0 ≤ v → v < m → StAt H' l (n + 1) → But l H H' → Q (.int v) H'
section
variable {P : Program} {w : World} {K : PySem.W.Frag} {mg : Str → Option Value} {base : Heap}
theorem scT : FnScope ["_law_state", "_law_many", "_law_digit", "_law_mixed"] ["_law_state", "_law_many"] (defScope sTake) := ⟨rfl, rfl, rfl, by decide +kernel, rfl, by decide +kernel, by decide +kernel⟩
theorem ok_take {f : Addr} {fd : FuncData} (F : Fun K "_law_take" "_law_take" sTake f fd) : FnOk P w K mg base CX0 1 f fd ["_law_state", "_law_many"] (spTake K) := by
  refine F.ok scT (fun vs H Q E h => ?_) (fun cdv A outer s H vs Q E hr h => ?_)
  · obtain ⟨l, m, n, rfl, _⟩ := h
    rfl
  · obtain ⟨l, m, n, rfl, m0, m1, S, hn, k⟩ := h
    obtain ⟨a, b, c, hl, ha, hb, hb2, hc, hcn⟩ := S.ex
    refine ⟨_, pss_cons (ps_if (pt_cmpR op_gt (pe_ix ix_list (pv 0) pe_int (fun _ _ => rfl)) pe_int (nomark _))
        (pss_cons (ps_set (i := 2) scT.nd rfl (Or.inl rfl) (pe_op op_mod (pe_ix ix_list (pv 0) pe_int (fun _ _ => rfl)) (pv 1)))
        (pss_cons (ps_asg (pe_op op_fdiv (pe_ix ix_list (pv 0) pe_int (fun _ _ => rfl)) (pv 1)) (pg_sub (pv 0) pe_int set_list))
        (pss_one (ps_ret (pv 2))))) pss_nil)
      (pss_cons (ps_asg (pe_op op_add (pe_ix ix_list (pv 0) pe_int (fun _ _ => rfl)) pe_int) (pg_sub (pv 0) pe_int set_list))
      (pss_cons (ps_set (i := 3) scT.nd rfl (Or.inl rfl) (pe_op op_mod (pe_op op_mul (pe_op op_add (pe_op op_add (pe_ix ix_list (pv 0) pe_int (fun _ _ => rfl)) (pe_op op_mul (pe_op op_mul pe_int (pe_ix ix_list (pv 0) pe_int (fun _ _ => rfl))) (pe_ix ix_list (pv 0) pe_int (fun _ _ => rfl)))) pe_int) pe_int) pe_int))
      (pss_cons (ps_set (i := 3) scT.nd rfl (Or.inl rfl) (pe_op op_mod (pe_op op_mul (pv 3) (pe_op op_add (pe_op op_mod (pv 3) pe_int) (pe_op op_mul pe_int (pe_ix ix_list (pv 0) pe_int (fun _ _ => rfl))))) pe_int))
      (pss_one (ps_ret (pe_op op_mod (pe_op op_add (pe_op op_fdiv (pv 3) pe_int) (pe_op op_fdiv (pv 3) pe_int)) (pv 1))))))), ?_⟩
    refine ⟨_, rfl, l, _, _, _, rfl, rfl, SqL.of hl, rfl, _, _, rfl, rfl, _, rfl, ?_⟩
    refine ite2 (fun q => ?_) (fun q => ?_)
    · refine ⟨_, rfl, l, _, _, _, rfl, rfl, SqL.of hl, rfl, _, rfl, _, _, rfl, rfl, m0, ?_⟩
      refine ⟨_, rfl, l, _, _, _, rfl, rfl, SqL.of hl, rfl, _, rfl, _, _, rfl, rfl, ⟨m0, m1⟩, _, rfl, l, _, _, 0, rfl, rfl, hl, rfl, _, rfl, ?_⟩
      refine k _ _ (Int.emod_nonneg _ (by lia)) (Int.emod_lt_of_pos _ m0) ⟨a / m, b, c, upd_same, Int.ediv_nonneg ha (by lia), hb, hb2, hc, by lia⟩ fun x o e ne => ?_
      rw [upd_ne ne]; exact e
    · refine ⟨_, rfl, l, _, _, _, rfl, rfl, SqL.of hl, rfl, _, _, rfl, rfl, _, rfl, l, _, _, 2, rfl, rfl, hl, rfl, ?_⟩
      generalize hH : upd H l (HO.lst ([V.int a, V.int b, V.int c].set 2 (V.int (c + 1)))) = H1
      have h1 : H1 l = some (.lst [.int a, .int b, .int (c + 1)]) := by rw [← hH]; exact upd_same
      have sm : (-(2 ^ 64) : Int) < c + 1 ∧ c + 1 < 2 ^ 64 := ⟨by lia, by lia⟩
      refine ⟨_, rfl, l, _, _, _, rfl, rfl, SqL.of h1, rfl, _, rfl, l, _, _, _, rfl, rfl, SqL.of h1, rfl, _, _, rfl, rfl, .inl ⟨by decide, by decide⟩, _, rfl, l, _, _, _, rfl, rfl, SqL.of h1, rfl, _, _, rfl, rfl, .inr sm, _, _, rfl, rfl, _, _, rfl, rfl, _, _, rfl, rfl, .inr ⟨by decide, by decide⟩, _, _, rfl, rfl, (by show (0 : Int) < 2305843009213693921; decide), ?_⟩
      generalize hx : (b + 65537 * (c + 1) * (c + 1) + 11) * 48271 % 2305843009213693921 = x
      have x0 : 0 ≤ x := by rw [← hx]; exact Int.emod_nonneg _ (by decide)
      have x1 : x < 2305843009213693921 := by rw [← hx]; exact Int.emod_lt_of_pos _ (by decide)
      refine ⟨_, rfl, _, rfl, _, _, rfl, rfl, (by show (0 : Int) < 1000003; decide), _, rfl, l, _, _, _, rfl, rfl, SqL.of h1, rfl, _, _, rfl, rfl, .inl ⟨by decide, by decide⟩, _, _, rfl, rfl, _, _, rfl, rfl, .inl ⟨by lia, by lia⟩, _, _, rfl, rfl, (by show (0 : Int) < 2305843009213693907; decide), ?_⟩
      refine ⟨_, rfl, _, _, rfl, rfl, ⟨by decide, by decide⟩, _, rfl, _, _, rfl, rfl, ⟨by decide, by decide⟩, _, _, rfl, rfl, _, rfl, _, _, rfl, rfl, m0, ?_⟩
      refine k _ _ (Int.emod_nonneg _ (by lia)) (Int.emod_lt_of_pos _ m0) ⟨a, b, c + 1, h1, ha, hb, hb2, by lia, by lia⟩ fun y o e ne => ?_
      rw [← hH, upd_ne ne]; exact e
end
end K76
end
section
set_option maxHeartbeats 4000001
namespace K76
open PySem L2 Own Bn
abbrev sHand : Stmt := top 14
theorem cut_ints (ns : List Int) (lo hi : Option Int) (h : ns.length ≤ 63) : ∃ ms : List Int, cutV (ns.map V.int) lo hi = ms.map V.int ∧ ms.length ≤ 63 := by
  refine ⟨(ns.drop (HT.sIx (ns.map V.int).length 0 lo)).take (HT.sIx (ns.map V.int).length (ns.map V.int).length hi - HT.sIx (ns.map V.int).length 0 lo), ?_, ?_⟩
  · unfold cutV; rw [List.map_take, List.map_drop]
  · rw [List.length_take, List.length_drop]; lia
theorem int_at {ms : List Int} {i : Nat} {x : V} (h : (ms.map V.int)[i]? = some x) : i < ms.length ∧ ∃ z, x = V.int z := by
  rw [List.getElem?_map] at h
  cases e : ms[i]? with
  | none => rw [e] at h; cases h
  | some z => rw [e] at h; exact ⟨(List.getElem?_eq_some_iff.mp e).1, z, (Option.some.inj h).symm⟩
def spHand (K : PySem.W.Frag) : Sp := fun vs H Q _ => ∃ (a : Addr) (ns : List Int), vs = [.ref a] ∧ SqL K H a (ns.map V.int) ∧ ns.length ≤ 63 ∧
  ∀ l H', H l = none → Same H H' → StAt H' l 0 → Q (.ref l) H'
theorem far_le (i : Nat) (f : Int) (h0 : 0 < f) (h : f ≤ 2 ^ (200 * i)) : f * 10 ^ 60 ≤ 2 ^ (200 * (i + 1)) := by
  have e : (2 : Int) ^ (200 * (i + 1)) = 2 ^ (200 * i) * 2 ^ 200 := by rw [Nat.mul_add, Int.pow_add]
  rw [e]
  have t : (10 : Int) ^ 60 ≤ 2 ^ 200 := by decide
  exact Int.le_trans (Int.mul_le_mul_of_nonneg_left t (by lia)) (Int.mul_le_mul_of_nonneg_right h (by decide))
theorem far_small {i : Nat} {f : Int} (hi : i ≤ 63) (h0 : 0 < f) (h : f ≤ 2 ^ (200 * i)) : f.natAbs < 2 ^ 20000 := by
  have e : (2 : Int) ^ (200 * i) = ((2 ^ (200 * i) : Nat) : Int) := by rw [Int.natCast_pow]; rfl
  have l : (2 : Nat) ^ (200 * i) < 2 ^ 20000 := Nat.pow_lt_pow_right (by decide) (by lia)
  rw [e] at h
  generalize (2 : Nat) ^ 20000 = N at *
  lia
theorem rest_small (x : Int) : (x % 10 ^ 60).natAbs < 2 ^ 20000 := by
  have a := Int.emod_nonneg x (show (10 : Int) ^ 60 ≠ 0 by decide)
  have b := Int.emod_lt_of_pos x (show (0 : Int) < 10 ^ 60 by decide)
  have c : (10 : Nat) ^ 60 < 2 ^ 200 := by decide
  have d : (2 : Nat) ^ 200 < 2 ^ 20000 := Nat.pow_lt_pow_right (by decide) (by decide)
  have e : ((10 : Int) ^ 60) = ((10 ^ 60 : Nat) : Int) := by decide
  rw [e] at a b ⊢
  generalize (2 : Nat) ^ 20000 = N at *
  generalize (2 : Nat) ^ 200 = M at *
  lia
section
variable {P : Program} {w : World} {K : PySem.W.Frag} {mg : Str → Option Value} {base : Heap}
theorem scH : FnScope ["_law_script", "_law_state", "_law_far", "_law_cell", "_law_k", "_law_one"] ["_law_script"] (defScope sHand) := ⟨rfl, rfl, rfl, by decide +kernel, rfl, by decide +kernel, by decide +kernel⟩
theorem ok_hand {f : Addr} {fd : FuncData} (F : Fun K "_law_hand" "_law_hand" sHand f fd) (G : Mgs mg) : FnOk P w K mg base CX0 1 f fd ["_law_script"] (spHand K) := by
  refine F.ok scH (fun vs H Q E h => ?_) (fun cdv A outer s H vs Q E hr h => ?_)
  · obtain ⟨a, ns, rfl, _⟩ := h
    rfl
  · obtain ⟨a, ns, rfl, hS, h63, k⟩ := h
    obtain ⟨t', hR, hq⟩ : ∃ t', PSs (cxOf CX0 P w K mg base ["_law_script", "_law_state", "_law_far", "_law_cell", "_law_k", "_law_one"] "_law_hand" (defScope sHand) f cdv A outer s H E).nox ((defBody sHand).drop 2) t' ∧
        ∀ (l : Addr) (v2 v3 v4 v5 : Option V) (H' : Hp) (x : Int), H l = none → Same H H' → 0 ≤ x → H' l = some (.lst [.int x, .int 0, .int 0]) → t' { nx := fun _ H' => Q .non H', rt := Q } [some (.ref a), some (.ref l), v2, v3, v4, v5] H' := by
      refine ⟨_, pss_cons (ps_for PassesOwn.never rfl (pi_enum true rfl G.enum (pa_cons (pe_slice sl_list (pv 0) po_none (po_some pe_int)) pa_nil)) (pg_tup rfl (pgs_cons (pg_name (i := 4) scH.nd rfl (Or.inl rfl)) (pgs_cons (pg_name (i := 3) scH.nd rfl (Or.inl rfl)) pgs_nil)))
          (pss_cons (ps_set (i := 5) scH.nd rfl (Or.inl rfl) (pe_op op_add (pe_op op_add (pe_op op_mod (pv 3) pe_int) (pe_op op_mul pe_int (pv 4))) pe_int))
          (pss_one (ps_asg (pe_op op_mod (pe_op op_add (pe_op op_mul (pe_ix ix_list (pv 1) pe_int (fun _ _ => rfl)) pe_int) (pv 5)) pe_int) (pg_sub (pv 1) pe_int set_list)))))
        (pss_one (ps_ret (pv 1))), ?_⟩
      intro l v2 v3 v4 v5 H1 x hl s1 x0 h1
      obtain ⟨ms, em, lm⟩ := cut_ints ns none (some 63) h63
      refine ⟨_, rfl, 63, rfl, a, _, rfl, s1.seq hS, fun p hp => ?_⟩
      have npl : p ≠ l := fun e => by rw [e, h1] at hp; cases hp
      refine ⟨p, ms.map V.int, rfl, SqL.of (by rw [← em]; exact upd_same), for_enum (K := K) (b := true) (a := p) (xs := ms.map V.int) (fun i σ H2 => (∃ w2 w3 w4 w5, σ = [some (.ref a), some (.ref l), w2, w3, w4, w5]) ∧ Same H H2 ∧ H2 p = some (.lst (ms.map V.int)) ∧ ∃ y : Int, 0 ≤ y ∧ y < 2305843009213693951 ∧ H2 l = some (.lst [.int x, .int y, .int 0]))
        ⟨⟨_, _, _, _, rfl⟩, s1.trans (same_new hp _), by rw [← em]; exact upd_same, 0, by decide, by decide, by rw [upd_ne npl.symm]; exact h1⟩ (fun i σ H2 _ q => SqL.of q.2.2.1) ?_ ?_⟩
      · rintro i v σ H2 T hi hT ⟨⟨w2, w3, w4, w5, rfl⟩, s2, h2, y, y0, y1, h3⟩
        obtain ⟨il, z, rfl⟩ := int_at hi
        have nTl : l ≠ T := ne_of_none h3 hT
        have nTp : p ≠ T := ne_of_none h2 hT
        refine ⟨T, _, rfl, SqT.of upd_same, rfl, _, _, rfl, _, _, rfl, rfl, ?_⟩
        refine ⟨_, rfl, _, _, rfl, rfl, (by show (0 : Int) < 2305843009213693951; decide), _, rfl, _, _, rfl, rfl, .inl ⟨by decide, by decide⟩, _, _, rfl, rfl, _, _, rfl, rfl, ?_⟩
        have h3' : (upd H2 T (.tup [.int i, .int z])) l = some (.lst [.int x, .int y, .int 0]) := by rw [upd_ne nTl]; exact h3
        refine ⟨_, rfl, l, _, _, _, rfl, rfl, SqL.of h3', rfl, _, _, rfl, rfl, .inr ⟨by decide, by decide⟩, _, rfl, _, _, rfl, rfl, _, _, rfl, rfl, (by show (0 : Int) < 2305843009213693951; decide), _, rfl, l, _, _, 1, rfl, rfl, h3', rfl, ?_⟩
        refine ⟨⟨_, _, _, _, rfl⟩, fun b o e => ?_, ?_, _, Int.emod_nonneg _ (by decide), Int.emod_lt_of_pos _ (by decide), upd_same⟩
        · rw [upd_ne (ne_of_none e hl), upd_ne (ne_of_none (s2 b o e) hT)]; exact s2 b o e
        · rw [upd_ne npl, upd_ne nTp]; exact h2
      · rintro σ H2 ⟨⟨w2, w3, w4, w5, rfl⟩, s2, h2, y, y0, y1, h3⟩
        exact ⟨_, rfl, k l H2 hl s2 ⟨x, y, 0, h3, x0, y0, by lia, by decide, by decide⟩⟩
    refine ⟨_, pss_cons (ps_set (i := 1) scH.nd rfl (Or.inl rfl) (pe_lst (pa_cons pe_int (pa_cons pe_int (pa_cons pe_int pa_nil)))))
      (pss_cons (ps_if (pw_and (pt_cmpR op_gt (pe_callB call_len_seq (by rfl) G.len PySem.boot_len (pa_cons (pv 0) pa_nil)) pe_int (nomark _)) (pw_and1 (pt_cmpR op_ge (pe_ix ix_list (pv 0) pe_int (fun _ _ => rfl)) (pe_op op_pow pe_int pe_int) (nomark _)))).pt
        (pss_cons (ps_set (i := 2) scH.nd rfl (Or.inl rfl) pe_int)
        (pss_one (ps_for PassesOwn.never rfl (pi_list (pe_slice sl_list (pv 0) po_none (po_some pe_int))) (pg_name (i := 3) scH.nd rfl (Or.inl rfl))
          (pss_cons (ps_asg (pe_op op_add (pe_ix ix_list (pv 1) pe_int (fun _ _ => rfl)) (pe_op op_mulW (pe_op op_mod (pe_callB call_abs (by rfl) G.abs (by rfl) (pa_cons (pv 3) pa_nil)) (pe_op op_pow pe_int pe_int)) (pv 2))) (pg_sub (pv 1) pe_int set_list))
          (pss_one (ps_set (i := 2) scH.nd rfl (Or.inl rfl) (pe_op op_mulW (pv 2) (pe_op op_pow pe_int pe_int))))))))
        pss_nil) hR), ?_⟩
    refine ⟨(by show 3 ≤ sizeLine; decide), fun l hl => ?_⟩
    have s0 : Same H (upd H l (.lst [.int 0, .int 0, .int 0])) := same_new hl _
    refine ⟨_, rfl, a, _, rfl, .inl (s0.seq hS), _, _, rfl, rfl, _, rfl, ?_⟩
    refine ite2 (fun q => ?_) (fun q => ?_)
    · have hpos : 0 < ns.length := by
        have := of_decide_eq_true q
        rw [List.length_map] at this
        lia
      refine ⟨_, rfl, a, _, _, _, rfl, rfl, s0.seq hS, (atI_nat (j := 0) (by rw [List.getElem?_map, List.getElem?_eq_getElem hpos]; rfl)), _, _, rfl, rfl, ⟨by decide, by decide, by decide⟩, _, _, rfl, rfl, _, rfl, ?_⟩
      refine ite2 (fun q2 => ?_) (fun q2 => ?_)
      · obtain ⟨ms, em, lm⟩ := cut_ints ns none (some 63) h63
        refine ⟨_, rfl, 63, rfl, a, _, rfl, s0.seq hS, fun p hp => ?_⟩
        have npl : p ≠ l := fun e => by rw [e, upd_same] at hp; cases hp
        refine ⟨p, rfl, ⟨_, SqL.of upd_same⟩, for_list (K := K) (a := p) (xs := ms.map V.int) (fun i σ H2 => (∃ (far : Int) (w3 w4 w5 : Option V), σ = [some (.ref a), some (.ref l), some (.int far), w3, w4, w5] ∧ 0 < far ∧ far ≤ 2 ^ (200 * i)) ∧ Same H H2 ∧ H2 p = some (.lst (ms.map V.int)) ∧ ∃ x : Int, 0 ≤ x ∧ H2 l = some (.lst [.int x, .int 0, .int 0]))
          ⟨⟨1, _, _, _, rfl, by decide, by decide⟩, s0.trans (same_new hp _), by rw [← em]; exact upd_same, 0, by decide, by rw [upd_ne npl.symm]; exact upd_same⟩ (fun i σ H2 _ q => SqL.of q.2.2.1) ?_ ?_⟩
        · rintro i v σ H2 hi ⟨⟨far, w3, w4, w5, rfl, f0, f1⟩, s2, h2, x, x0, h3⟩
          obtain ⟨il, z, rfl⟩ := int_at hi
          have fs := far_small (by lia) f0 f1
          refine ⟨_, rfl, l, _, _, _, rfl, rfl, SqL.of h3, rfl, _, rfl, _, rfl, _, _, rfl, rfl, ⟨by decide, by decide, by decide⟩, _, _, rfl, rfl, (by show (0 : Int) < 10 ^ 60; decide), _, rfl, _, _, rfl, rfl, ⟨?_, fs⟩, _, _, rfl, rfl, _, rfl, l, _, _, 0, rfl, rfl, h3, rfl, ?_⟩
          · exact rest_small _
          refine ⟨_, rfl, _, _, rfl, rfl, ⟨by decide, by decide, by decide⟩, _, _, rfl, rfl, ⟨fs, by decide⟩, ?_⟩
          refine ⟨⟨_, _, _, _, rfl, ?_, far_le i far f0 f1⟩, fun b o e => ?_, ?_, _, ?_, upd_same⟩
          · exact Int.mul_pos f0 (by decide)
          · rw [upd_ne (ne_of_none e hl)]; exact s2 b o e
          · rw [upd_ne npl]; exact h2
          · exact Int.add_nonneg x0 (Int.mul_nonneg (Int.emod_nonneg _ (by decide)) (by lia))
        · rintro σ H2 ⟨⟨far, w3, w4, w5, rfl, _, _⟩, s2, h2, x, x0, h3⟩
          exact hq l _ _ _ _ H2 x hl s2 x0 h3
      · exact hq l _ _ _ _ _ 0 hl s0 (by decide) upd_same
    · exact hq l _ _ _ _ _ 0 hl s0 (by decide) upd_same
end
end K76
end
section
set_option maxHeartbeats 4000001
namespace Bn
open PySem L2 Own
end Bn
end
section
set_option maxHeartbeats 4000001
namespace Bn
open PySem L2 Own
def big (x y : Int) : Int := if y > x then y else x
def layStep (st : List Int × List Int) (f : Nat × Nat) : List Int × List Int :=
  ((st.1.set f.1 (1 + big (st.1.getD f.1 0) (st.1.getD f.2 0))).set f.2 (1 + big (st.1.getD f.1 0) (st.1.getD f.2 0)), st.2 ++ [1 + big (st.1.getD f.1 0) (st.1.getD f.2 0)])
def lay (n : Nat) (fs : List (Nat × Nat)) : List Int × List Int := fs.foldl layStep (List.replicate n 0, [])
def meets (g f : Nat × Nat) : Bool := decide (g.1 = f.1 ∨ g.1 = f.2) || decide (g.2 = f.1 ∨ g.2 = f.2)
def ahead (fs : List (Nat × Nat)) (fo : List Int) (f : Nat × Nat) (i : Nat) : List Int := ((List.range i).filter fun j => meets (fs.getD j (0, 0)) f).map fun j => fo.getD j 0
def layers (N : Nt) : List Int := (lay N.lanes N.forks).2
end Bn
end
section
set_option maxHeartbeats 4000001
namespace Bn
open PySem L2 Own
abbrev Fk := Nat × Nat
def run {σ α : Type} (step : σ → Fk → σ × α) : σ → List Fk → σ × List (α × Fk)
  | s, [] => (s, [])
  | s, f :: fs => ((run step (step s f).1 fs).1, ((step s f).2, f) :: (run step (step s f).1 fs).2)
def rnk (x : Int × Fk) : Int := x.1 * 1024 + x.2.1 * 32 + x.2.2
def ins (x : Int × Fk) : List (Int × Fk) → List (Int × Fk)
  | [] => [x]
  | y :: l => if rnk x ≤ rnk y then x :: y :: l else y :: ins x l
end Bn
end
section
set_option maxHeartbeats 4000001
namespace Bn
open PySem L2 Own
end Bn
end
section
set_option maxHeartbeats 4000001
namespace Ts
open PySem PyProof.Rows
def R (rk : Keyed → Int) (xs : Array Keyed) (i : Nat) : Int := match xs[i]? with
  | some p => rk p
  | none => 0
section
variable {prog : Program} {w : World} {A : Around} {E : Value → Shared → Prop} {s : Shared} {κ : SortKind} {P : Keyed → Prop} {rk : Keyed → Int} {a₀ : Array Keyed}
end
end Ts
end
section
set_option maxHeartbeats 4000001
namespace Ts
open PySem PyProof.Rows
section
variable {prog : Program} {w : World} {A : Around} {E : Value → Shared → Prop} {s : Shared} {κ : SortKind} {P : Keyed → Prop} {rk : Keyed → Int} {a₀ : Array Keyed}
end
end Ts
end
section
set_option maxHeartbeats 4000001
namespace Ts
open PySem PyProof.Rows
def bd (left : Bool) (k r : Int) : Bool := if left = true then decide (r < k) else !decide (k < r)
section
variable {prog : Program} {w : World} {A : Around} {E : Value → Shared → Prop} {s : Shared} {κ : SortKind} {P : Keyed → Prop} {rk : Keyed → Int} {a₀ : Array Keyed}
end
end Ts
end
section
set_option maxHeartbeats 4000001
namespace Ts
open PySem PyProof.Rows
section
variable {rk : Keyed → Int} {T out a b c : List Keyed}
end
section
variable {rk : Keyed → Int} {T : List Keyed} {out a b : Array Keyed} {ia ib k : Nat} {p q : Keyed}
end
end Ts
end
section
set_option maxHeartbeats 4000001
namespace Ts
open PySem PyProof.Rows
section
variable {prog : Program} {w : World} {A : Around} {E : Value → Shared → Prop} {s : Shared} {κ : SortKind} {P : Keyed → Prop} {rk : Keyed → Int} {a₀ : Array Keyed}
end
end Ts
end
section
set_option maxHeartbeats 4000001
namespace Ts
open PySem PyProof.Rows
section
variable {rk : Keyed → Int} {T out a b c : List Keyed}
end
section
variable {rk : Keyed → Int} {T : List Keyed} {out a b : Array Keyed} {na nb i : Nat} {p q : Keyed}
end
section
variable {prog : Program} {w : World} {A : Around} {E : Value → Shared → Prop} {s : Shared} {κ : SortKind} {P : Keyed → Prop} {rk : Keyed → Int} {a₀ : Array Keyed}
end
end Ts
end
section
set_option maxHeartbeats 4000001
namespace Ts
open PySem PyProof.Rows
section
variable {rk : Keyed → Int}
end
section
variable {prog : Program} {w : World} {A : Around} {E : Value → Shared → Prop} {s : Shared} {κ : SortKind} {P : Keyed → Prop} {rk : Keyed → Int} {a₀ : Array Keyed}
end
end Ts
end
section
set_option maxHeartbeats 4000001
namespace Ts
open PySem PyProof.Rows
section
variable {prog : Program} {w : World} {A : Around} {E : Value → Shared → Prop} {s : Shared} {κ : SortKind} {P : Keyed → Prop} {rk : Keyed → Int} {a₀ : Array Keyed}
end
end Ts
end
section
set_option maxHeartbeats 4000001
namespace L2
open PySem PySem.Spec PyProof.Rows Own
theorem dk_empty {P : Program} {w : World} {H : Hp} (h : Heap) (hb : sysModules < h.objs.size) : ObjOk P w H (h.push { cls := .type "dict", data := .dict #[] }) h.objs.size (.dK []) :=
  ⟨Nat.zero_le _, beq_eq_false_iff_ne.mpr (Ne.symm (Nat.ne_of_lt hb)), [], .nil, Heap.DictOf.new h⟩
def tDNewK : TE := fun _ H Q => ∀ p, H p = none → Q (.ref p) (upd H p (.dK []))
section
variable {X : Cx} {pos : Pos}
theorem Inv.big {pins : List (Addr × Obj)} {σ : St} {H : Hp} {s : Shared} (I : Inv X pins σ H s) : sysModules < s.heap.objs.size := by
  have h : mainGlobals < s.heap.objs.size := (I.mod.glob.keeps I.bk).lt
  exact Nat.lt_trans (by decide) h
theorem pe_dnewK : PE X (.Dict [] [] pos) tDNewK := fun pins s σ H Q I h =>
  wpAny_Dict_empty ⟨.ref s.heap.objs.size, _, I.laid (a := s.heap.objs.size) (o := .dK []) (t' := s.toks) (fun _ _ q => Heap.get?_push_of_some _ q) (Nat.le_refl _) (dk_empty s.heap I.big), rfl, h _ (I.hok.fresh (Nat.le_refl _))⟩
end
end L2
namespace Bn
open PySem L2 Own
end Bn
end
section
set_option maxHeartbeats 4000001
namespace L2
open PySem PySem.Spec PyProof.Rows Own
section
variable {prog : Program} {w : World} {A : Around} {R : Result → Shared → Prop} {I S : Addr} {fp wr : List Addr} {n : Nat} {P : Nat → Value → Prop} {St : Nat → Heap → Prop}
end
section
variable {prog : Program} {w : World} {A : Around} {E : Value → Shared → Prop} {s : Shared}
end
section
variable {X : Cx}
end
end L2
end
section
set_option maxHeartbeats 4000001
namespace Ts
open PySem PyProof.Rows
section
variable {prog : Program} {w : World} {A : Around} {E : Value → Shared → Prop} {s : Shared}
end
end Ts
end
section
set_option maxHeartbeats 4000001
namespace Own
open PySem PySem.Spec PyProof.Rows
section
variable {prog : Program} {w : World} {A : Around} {E : Value → Shared → Prop} {s : Shared} {z TI TO i1 i2 : Addr} {f1 f2 : List Addr} {n1 n2 k : Nat} {P1 P2 : Nat → Value → Prop} {S1 S2 : Nat → Heap → Prop} {a b : Value}
end
end Own
end
section
set_option maxHeartbeats 4000001
namespace Own
open PySem PySem.Spec PyProof.Rows
section
variable {prog : Program} {w : World} {A : Around} {E : Value → Shared → Prop} {s : Shared} {z TI TO i1 i2 L : Addr} {f1 f2 : List Addr} {n n2 k : Nat} {P1 P2 : Nat → Value → Prop} {S1 S2 : Nat → Heap → Prop}
end
end Own
end
section
set_option maxHeartbeats 4000001
namespace Own
open PySem PySem.Spec PyProof.Rows Ts
section
variable {prog : Program} {w : World} {A : Around} {E : Value → Shared → Prop} {s : Shared}
end
end Own
namespace L2
open PySem PySem.Spec PyProof.Rows Own Ts
section
variable {X : Cx}
end
end L2
end
section
set_option maxHeartbeats 4000001
namespace L2
open PySem PySem.Spec PyProof.Rows Own Ts
section
variable {prog : Program} {w : World} {A : Around} {E : Value → Shared → Prop} {s : Shared}
end
section
variable {X : Cx}
end
section
variable {X : Cx}
end
end L2
end
section
set_option maxHeartbeats 4000001
namespace L2
open PySem PySem.Spec PyProof.Rows Own Ts
end L2
end
section
set_option maxHeartbeats 4000001
namespace Bn
open PySem L2 Own
end Bn
end
section
set_option maxHeartbeats 4000001
namespace Bn
open PySem L2 Own
end Bn
end
section
set_option maxHeartbeats 4000001
namespace Bn
open PySem L2 Own
end Bn
end
section
set_option maxHeartbeats 4000001
namespace L2
open PySem PySem.Spec PyProof.Rows Own
section
variable {X : Cx}
end
end L2
namespace Bn
open PySem L2 Own
end Bn
end
section
set_option maxHeartbeats 4000001
namespace Bn
open PySem L2 Own
end Bn
end
section
set_option maxHeartbeats 4000001
namespace L2
open PySem PySem.Spec PyProof.Rows Own
section
variable {prog : Program} {w : World} {A : Around} {E : Value → Shared → Prop} {it l : Addr} {items : Array Value}
end
section
variable {X : Cx}
end
end L2
end
section
set_option maxHeartbeats 4000001
namespace L2
open PySem PySem.Spec PyProof.Rows Own
section
variable {prog : Program} {w : World} {A : Around} {E : Value → Shared → Prop} {l : Addr} {items : Array Value}
end
section
variable {X : Cx}
abbrev TF := Str → St → Hp → (Str → Hp → Prop) → Prop
def PFs (X : Cx) (es : List Expr) (t : TF) : Prop := ∀ (out : Str) (pins : List (Addr × Obj)) (s : Shared) (σ : St) (H : Hp) (Q : Str → Hp → Prop), out.length ≤ sizeLine → Inv X pins σ H s → t out σ H Q →
  wpAny (model X.prog X.w) X.A (joinParts out (evalEach es X.env)) (EP X pins σ fun v H' => ∃ z, v = .str z ∧ Q z H') X.xe s
def fNil : TF := fun out _ H Q => Q out H
def fStr (x : Str) (r : TF) : TF := fun out σ H Q => out.length + x.length ≤ sizeLine ∧ r (out ++ x) σ H Q
def fInt (te : TE) (r : TF) : TF := fun out σ H Q => te σ H fun v H1 => ∃ i : Int, v = .int i ∧ i.natAbs.log2 < 1920 ∧ out.length + (Bn.txt i).length ≤ sizeLine ∧ r (out ++ Bn.txt i) σ H1 Q
theorem pfs_nil : PFs X [] fNil := fun out pins s σ H Q hz I q => joinParts_nil ⟨.str out, H, I.tok _, ⟨_, rfl⟩, out, rfl, q⟩ hz
theorem pfs_str {x : Str} {j p} {es : List Expr} {t : TF} (h : PFs X es t) : PFs X (.Constant (.str x) j p :: es) (fStr x t) := by
  intro out pins s σ H Q hz I ⟨hl, q⟩
  refine joinParts_cons (Calls.Constant_str ?_)
  have e : (out ++ x).length ≤ sizeLine := by rw [Str.length_append]; exact hl
  exact ⟨e, h _ pins _ σ H Q e (I.tok _) q⟩
theorem pfs_int {e : Expr} {te : TE} {p : Pos} {es : List Expr} {t : TF} (he : PE X e te) (h : PFs X es t) : PFs X (.FormattedValue e (-1) none p :: es) (fInt te t) := by
  intro out pins s σ H Q hz I q
  refine joinParts_cons (FormattedValue_plain (thn (he pins s σ H _ I q) fun u s1 ⟨v, H1, I1, r1, i, ev, hd, hl, q1⟩ => ?_))
  subst ev
  obtain ⟨tk, rfl⟩ := r1
  refine formatField_int_small hd ?_
  have e : (out ++ Bn.txt i).length ≤ sizeLine := by rw [Str.length_append]; exact hl
  exact ⟨e, h _ pins _ σ H1 Q e (I1.tok _) q1⟩
theorem pe_fstr {e1 e2 : Expr} {es : List Expr} {pos : Pos} {t : TF} (h : PFs X (e1 :: e2 :: es) t) : PE X (.JoinedStr (e1 :: e2 :: es) pos) (fun σ H Q => t Str.empty σ H fun z H' => Q (.str z) H') := by
  intro pins s σ H Q I q
  refine JoinedStr_many (thn (h Str.empty pins s σ H _ (Nat.zero_le _) I q) fun u s1 ⟨v, H1, I1, r1, z, ev, q1⟩ => ?_)
  subst ev
  exact ⟨_, H1, I1, r1, q1⟩
end
end L2
end
section
set_option maxHeartbeats 4000001
namespace Bn
open PySem PySem.Spec PyProof.Rows PySem.NumText Builtin Builtin.Str
theorem txt_small {n : Nat} (h : n ≤ 1000) : (txt (n : Nat)).length ≤ 31 := (txt_len (n := (n : Nat)) (Nat.lt_of_le_of_lt (show (n : Int).natAbs ≤ 1000 by lia) (by decide))).2
end Bn
end
section
set_option maxHeartbeats 4000001
namespace Bn
open PySem PySem.Spec PyProof.Rows PySem.NumText Builtin Builtin.Str
theorem s_assoc (a b c : Str) : a ++ b ++ c = a ++ (b ++ c) := Str.ext' (by rw [Str.cps_append, Str.cps_append, Str.cps_append, Str.cps_append, Array.append_assoc])
theorem s_nil (a : Str) : a ++ Str.empty = a := Str.ext' (by rw [Str.cps_append]; show a.cps ++ #[] = a.cps; simp)
theorem s_lin (a : Str) : Str.empty ++ a = a := Str.ext' (by rw [Str.cps_append]; show #[] ++ a.cps = a.cps; simp)
theorem j_cons (c a b : Str) (r : List Str) : Str.join c (a :: b :: r) = a ++ c ++ Str.join c (b :: r) := rfl
theorem j_end (c : Str) : ∀ {ws : List Str}, ws ≠ [] → Str.join c ws ++ c = Str.join c (ws ++ [Str.empty])
  | [], h => absurd rfl h
  | [a], _ => by
    show a ++ c = a ++ c ++ Str.empty
    rw [s_nil]
  | a :: b :: r, _ => by
    have ih := j_end c (ws := b :: r) (by simp)
    rw [j_cons, s_assoc, ih]
    rfl
theorem j_begin (c : Str) {ws : List Str} (h : ws ≠ []) : c ++ Str.join c ws = Str.join c (Str.empty :: ws) := by
  cases ws with
  | nil => exact absurd rfl h
  | cons b r => rw [j_cons, s_lin]
def inter : List Str → List Str
  | [] => []
  | [a] => [a]
  | a :: b :: r => a :: Str.empty :: inter (b :: r)
theorem inter_ne : ∀ {ws : List Str}, ws ≠ [] → ∃ x y, inter ws = x :: y
  | [], h => absurd rfl h
  | [a], _ => ⟨a, [], rfl⟩
  | a :: b :: r, _ => ⟨a, _, rfl⟩
theorem j_twice (c : Str) : ∀ ws : List Str, Str.join (c ++ c) ws = Str.join c (inter ws)
  | [] => rfl
  | [a] => rfl
  | a :: b :: r => by
    have ih := j_twice c (b :: r)
    obtain ⟨x, y, e⟩ := inter_ne (ws := b :: r) (by simp)
    show a ++ (c ++ c) ++ Str.join (c ++ c) (b :: r) = Str.join c (a :: Str.empty :: inter (b :: r))
    rw [ih, e, j_cons, j_cons, s_lin, s_assoc, s_assoc, s_assoc]
theorem j_lead (c d : Str) : ∀ (b : Str) (r : List Str), d ++ Str.join (c ++ d) (b :: r) = Str.join c ((b :: r).map (d ++ ·))
  | b, [] => rfl
  | b, x :: r => by
    have ih := j_lead c d x r
    show d ++ (b ++ (c ++ d) ++ Str.join (c ++ d) (x :: r)) = d ++ b ++ c ++ Str.join c ((x :: r).map (d ++ ·))
    rw [← ih, s_assoc, s_assoc, s_assoc, s_assoc]
theorem j_blank (c d a : Str) : ∀ ws : List Str, Str.join (c ++ d) (a :: ws) = Str.join c (a :: ws.map (d ++ ·))
  | [] => rfl
  | b :: r => by
    rw [j_cons, s_assoc, s_assoc, j_lead]
    show _ = a ++ c ++ Str.join c ((b :: r).map (d ++ ·))
    rw [s_assoc]
end Bn
end
section
set_option maxHeartbeats 4000001
namespace K76
open PySem L2 Own Bn
abbrev sBad : Stmt := top 19
def txtW (xs : List Wd) : Str := Txt.join (Str.ofString ",") (xs.map wdT)
def cmm : Str := ⟨#[44]⟩
def blk : Str := ⟨#[32]⟩
theorem e_comma : Str.ofString "," = cmm := by decide
theorem txtW_join (xs : List Wd) : txtW xs = Str.join cmm (xs.map wdT) := by
  unfold txtW
  rw [e_comma]
  exact StrLaws.glued_eq_join _ _
theorem bad_nil : OkW (.inr Str.empty) := ⟨by decide, by decide, by decide, by decide⟩
theorem bad_blank (n : Int) (h : n.natAbs < 10 ^ 30) : OkW (.inr (blk ++ txt n)) := by
  have e : (blk ++ txt n).cps.toList = 32 :: (txt n).cps.toList := by rw [Str.cps_append, Array.toList_append]; rfl
  have f : figsOf (blk ++ txt n) = blk ++ txt n := by
    unfold figsOf
    rw [if_neg (by rw [e]; simp)]
  refine ⟨?_, fun c hc => ?_, ?_, fun c hc => ?_⟩
  · unfold badW
    rw [f, e]
    simp [figB]
  · rw [e] at hc
    rcases List.mem_cons.mp hc with rfl | q
    · decide
    · rcases txt_signs n c q with z | z <;> lia
  · have := (txt_len h).2
    rw [Str.length_append]
    have e1 : blk.length = 1 := rfl
    lia
  · rw [e] at hc
    rcases List.mem_cons.mp hc with rfl | q
    · decide
    · rcases txt_signs n c q with z | z <;> lia
def interW : List Wd → List Wd
  | [] => []
  | [a] => [a]
  | a :: b :: r => a :: .inr Str.empty :: interW (b :: r)
theorem interW_map : ∀ xs : List Wd, (interW xs).map wdT = inter (xs.map wdT)
  | [] => rfl
  | [a] => rfl
  | a :: b :: r => by
    show wdT a :: Str.empty :: (interW (b :: r)).map wdT = wdT a :: Str.empty :: inter ((b :: r).map wdT)
    rw [interW_map (b :: r)]
theorem interW_ok : ∀ {xs : List Wd}, (∀ x ∈ xs, OkW x) → ∀ x ∈ interW xs, OkW x
  | [], _, x, hx => by simp [interW] at hx
  | [a], h, x, hx => h x hx
  | a :: b :: r, h, x, hx => by
    have hx' : x ∈ a :: Sum.inr Str.empty :: interW (b :: r) := hx
    rcases List.mem_cons.mp hx' with rfl | q
    · exact h _ (by simp)
    · cases List.mem_cons.mp q with
      | inl e => rw [e]; exact bad_nil
      | inr q => exact interW_ok (xs := b :: r) (fun y hy => h y (List.mem_cons_of_mem _ hy)) x q
theorem interW_len : ∀ xs : List Wd, (interW xs).length ≤ 2 * xs.length
  | [] => by decide
  | [a] => by show 1 ≤ 2; decide
  | a :: b :: r => by
    have := interW_len (b :: r)
    show (interW (b :: r)).length + 1 + 1 ≤ 2 * ((b :: r).length + 1)
    lia
theorem interW_bad {a b : Wd} {r : List Wd} : someBad (interW (a :: b :: r)) = true := by
  show someBad (a :: .inr Str.empty :: interW (b :: r)) = true
  unfold someBad
  simp
def spBad (K : PySem.W.Frag) : Sp := fun vs H Q _ => ∃ (l lw : Addr) (n : Nat) (ns : List Int), vs = [.ref l, .ref lw] ∧ StAt H l n ∧ n < 2 ^ 59 ∧ l ≠ lw ∧ H lw = some (.lst (ns.map fun x => V.str (txt x))) ∧ 1 ≤ ns.length ∧ ns.length ≤ 16 ∧ (∀ x ∈ ns, x.natAbs < 10 ^ 30) ∧
  ∀ (xs : List Wd) H', xs ≠ [] → xs.length ≤ 1000 → (∀ x ∈ xs, OkW x) → someBad xs = true → StAt H' l (n + 3) → But l H H' → Q (.str (txtW xs)) H'
end K76
end
section
set_option maxHeartbeats 4000001
namespace L2
open PySem PySem.Spec PyProof.Rows
section
variable {κ : Type} [DecidableEq κ]
end
section
variable {P : Program} {w : World} {H : Hp} {h : Heap} {a : Addr}
end

section
variable {X : Cx} {pins : List (Addr × Obj)} {σ : St} {H : Hp} {s : Shared} {a : Addr} {y v : V} {u r : Value} {o : Option V} {A : Around} {E : Value → Shared → Prop}

end

section
variable {X : Cx} {pins : List (Addr × Obj)} {σ : St} {H : Hp} {s : Shared} {a : Addr} {kvs : List (Key × V)} {k : Key} {u : Value} {A : Around} {E : Value → Shared → Prop}
end
section
variable {X : Cx} {o i e value : Expr} {pos pos' tpos : Pos} {td ty tv : TE}
end
section
variable {X : Cx} {pos : Pos}
end
structure M2 (X : Cx) (o : Expr) (m : Str) (apos : Pos) (e f : Expr) (cpos : Pos) : Prop where
  base : attributeBase o m X.env (eval o X.env) = eval o X.env
  few : ((backTo cpos (starEach [e, f] X.env)).all (fun x => !x.1) && (backToKw cpos (keywordEach [] X.env)).all (fun x => x.1.isSome)
    && decide (([e, f] : List Expr).length + ([] : List Keyword).length + (if ([] : List Keyword).isEmpty then 0 else 1) < 30)) = true
  line : (apos.endLine == cpos.line) = true
  trees : backTo cpos (starEach [e, f] X.env) = [(false, eval e X.env), (false, eval f X.env)]

section
variable {X : Cx} {pins : List (Addr × Obj)} {σ : St} {H : Hp} {s : Shared} {a : Addr} {y d : V} {u r : Value} {o : Option V} {A : Around} {E : Value → Shared → Prop}
end

section
variable {X : Cx} {o e f : Expr} {apos cpos : Pos} {td ty tx : TE}
end
section
variable {X : Cx} {pins : List (Addr × Obj)} {σ : St} {H : Hp} {s : Shared} {a : Addr} {kvs : List (Key × V)} {A : Around} {E : Value → Shared → Prop}
end


section
variable {X : Cx} {pins : List (Addr × Obj)} {σ : St} {H : Hp} {s : Shared} {a : Addr} {y : V} {u : Value} {A : Around} {E : Value → Shared → Prop}
end
end L2
end
section
set_option maxHeartbeats 4000001
namespace Bn
open PySem L2 Own
structure Grp where
  many : Int
  lane : Nat
  fork : Nat
end Bn
end
section
set_option maxHeartbeats 4000001
namespace Bn
open PySem L2 Own
def part (m : Int) (lane k : Nat) : List Grp := if m = 0 then [] else [⟨m, lane, k⟩]
end Bn
end
section
set_option maxHeartbeats 4000001
namespace Bn
open PySem L2 Own
end Bn
end
section
set_option maxHeartbeats 4000001
namespace Bn
open PySem L2 Own
end Bn
end
section
set_option maxHeartbeats 4000001
namespace L2
open PySem PySem.Spec PyProof.Rows Own
section
variable {prog : Program} {w : World} {A : Around} {E : Value → Shared → Prop} {s : Shared}
end
section
variable {X : Cx}
end
section
variable {X : Cx}
end
end L2
end
section
set_option maxHeartbeats 4000001
namespace L2
open PySem PySem.Spec PyProof.Rows Own
section
variable {X : Cx}
end
end L2
end
section
set_option maxHeartbeats 4000001
namespace L2
open PySem
end L2
namespace Bn
open PySem L2 Own
section
variable {H0 H H' : Hp} {l d lt lg lo : Addr} {qa : List Addr} {ts os : List Int} {gs : List Grp}
end
inductive Dd
  | put (lane : Nat) (many : Int)
  | step (place : Nat)
  | join (i j : Nat)
end Bn
end
section
set_option maxHeartbeats 4000001
namespace Bn
open PySem L2 Own
section
variable {H0 H : Hp} {l d lt lg lo : Addr} {qa : List Addr} {ts os : List Int} {gs : List Grp}
end
end Bn
end
section
set_option maxHeartbeats 4000001
namespace L2
open PySem Own
section
variable {X : Cx}
end
end L2
end
section
set_option maxHeartbeats 4000001
namespace L2
open PySem
theorem seq_late {t u : TS} {D : Ends} {σ : St} {H : Hp} (h : ∀ D' : Ends, (∀ σ H, u D σ H → D'.nx σ H) → t D' σ H) : tSeq t u D σ H := h { D with nx := u D } fun _ _ x => x
theorem seq_lateR {t u : TS} {D : Ends} {σ : St} {H : Hp} (h : ∀ D' : Ends, (∀ σ H, u D σ H → D'.nx σ H) → (∀ v H, D.rt v H → D'.rt v H) → t D' σ H) : tSeq t u D σ H := h { D with nx := u D } (fun _ _ x => x) fun _ _ x => x
end L2
end
section
set_option maxHeartbeats 4000001
namespace L2
open PySem Own PyProof.Rows PySem.Spec
section
variable {X : Cx}
end
end L2
namespace Bn
open PySem L2 Own
abbrev Sn := List Int × List Grp × List Int
abbrev Sn.none (N : Nt) : Sn := (List.replicate N.forks.length 0, [], List.replicate N.lanes 0)
section
variable {H0 H H' : Hp} {l d lt lg lo : Addr} {qa qa' : List Addr} {ts os ts' os' : List Int} {gs gs' : List Grp}
end
end Bn
end
section
set_option maxHeartbeats 4000001
namespace L2
open PySem PySem.Spec PyProof.Rows
def FlyT (e T : Addr) (cls : Value) (dx : Option Addr) (fl : Value) (h : Heap) : Prop :=
  ∃ oe vs oT ts, h.get? e = some oe ∧ (oe.cls = cls ∧ oe.dict = dx) ∧ oe.data = .fields vs ∧ vs[1]? = some (.ref T) ∧ T ≠ e ∧ h.get? T = some oT ∧ oT.data = .fields ts ∧ ts[3]? = some fl
structure Stp (fs : List Addr) (Z : Addr → Prop) (h h' : Heap) : Prop where
  keep : ∀ b o, h.get? b = some o → ¬ Z b → b ∉ fs → h'.get? b = some o
  slot : ∀ b o, h.get? b = some o → ¬ Z b → ∃ sl, h'.get? b = some { o with slots := sl }
  there : ∀ b o, h.get? b = some o → ∃ o', h'.get? b = some o'
theorem Stp.trans {fs : List Addr} {Z : Addr → Prop} {h h1 h2 : Heap} (x : Stp fs Z h h1) (y : Stp fs Z h1 h2) : Stp fs Z h h2 :=
  ⟨fun b o e z f => y.keep b o (x.keep b o e z f) z f, fun b o e z => by
    obtain ⟨sl, q⟩ := x.slot b o e z
    obtain ⟨sl', q'⟩ := y.slot b _ q z
    exact ⟨sl', q'⟩, fun b o e => by
    obtain ⟨o1, q⟩ := x.there b o e
    exact y.there b o1 q⟩
theorem Stp.mono {fs fs' : List Addr} {Z Z' : Addr → Prop} {h h' : Heap} (x : Stp fs Z h h') (hf : ∀ b ∈ fs, b ∈ fs') (hz : ∀ b o, h.get? b = some o → Z b → Z' b) : Stp fs' Z' h h' :=
  ⟨fun b o e z f => x.keep b o e (fun q => z (hz b o e q)) fun q => f (hf b q), fun b o e z => x.slot b o e fun q => z (hz b o e q), x.there⟩
theorem Stp.frames {fs : List Addr} {Z : Addr → Prop} {h h' B : Heap} {l : List Env} (x : Stp fs Z h h') (hz : ∀ b o, h.get? b = some o → Z b → ∃ vs, o.data = .fields vs) (hl : h.FunFrames B l) : h'.FunFrames B l :=
  hl.of_keeps fun b o e nf => by
    obtain ⟨sl, q⟩ := x.slot b o e fun z => by
      obtain ⟨vs, d⟩ := hz b o e z
      exact nf vs d
    exact ⟨_, q, rfl⟩
theorem FlyT.fields {e T : Addr} {cls : Value} {dx : Option Addr} {fl : Value} {h : Heap} (x : FlyT e T cls dx fl h) : ∀ b o, h.get? b = some o → (b = e ∨ b = T) → ∃ vs, o.data = .fields vs := by
  obtain ⟨oe, vs, oT, ts, he, _, hd, _, _, hT, hdT, _⟩ := x
  rintro b o q (rfl | rfl)
  · rw [he] at q; exact ⟨vs, Option.some.inj q ▸ hd⟩
  · rw [hT] at q; exact ⟨ts, Option.some.inj q ▸ hdT⟩
theorem put_at {h : Heap} {a : Addr} {c : Value} {d : Option Addr} {vs : Array Value} {sl : Array (Option Value)} (i : Nat) (x : Value) (q : h.get? a = some ⟨c, d, .fields vs, sl⟩) : (h.update a (Obj.mapFields (·.setIfInBounds i x))).get? a = some ⟨c, d, .fields (vs.setIfInBounds i x), sl⟩ := Heap.get?_update_self _ q rfl
theorem put_ne {h : Heap} {a b : Addr} {f : Obj → Obj} (n : b ≠ a) : (h.update a f).get? b = h.get? b := Heap.get?_update_other _ _ (Ne.symm n)
theorem put_stp {h : Heap} {a : Addr} {o : Obj} {c : Value} {d : Option Addr} {vs : Array Value} {sl : Array (Option Value)} (i : Nat) (x : Value) (q : h.get? a = some ⟨c, d, .fields vs, sl⟩) : Stp [] (fun b => b = a) h (h.update a (Obj.mapFields (·.setIfInBounds i x))) :=
  ⟨fun b o e z _ => (put_ne z).trans e, fun b o e z => ⟨o.slots, (put_ne z).trans e⟩, fun b o e => by
    by_cases z : b = a
    · rw [z]; exact ⟨_, put_at i x q⟩
    · exact ⟨o, (put_ne z).trans e⟩⟩
theorem land {M : Model} {A : Around} {E : Value → Shared → Prop} {s : Shared} {e T : Addr} {cls fl : Value} {dx : Option Addr} {Q : Unit → Shared → Prop} (x : FlyT e T cls dx fl s.heap)
    (h : ∀ h', Stp [] (fun b => b = T) s.heap h' → FlyT e T cls dx .none h' → Q () { s with heap := h' }) : wpAny M A (setFlight (.ref e) none) Q E s := by
  obtain ⟨oe, vs, ⟨cT, dT, _, slT⟩, ts, he, hc, hd, h1, ne, hT, rfl, h3⟩ := x
  have sz : 3 < ts.size := (Array.getElem?_eq_some_iff.mp h3).1
  refine wpAny_setFlight_none he hd h1 hT rfl sz (h _ (put_stp (o := oe) 3 .none hT) ⟨oe, vs, _, ts.setIfInBounds 3 .none, (put_ne (Ne.symm ne)).trans he, hc, hd, h1, ne, put_at 3 .none hT, rfl, ?_⟩)
  rw [Array.getElem?_setIfInBounds_self, if_pos sz]
theorem entry_new {M : Model} {A : Around} {E : Value → Shared → Prop} {s : Shared} {B : Heap} {env : Env} {outer : List Env} {L e : Addr} {c : Value} {d : Option Addr} {vs : Array Value} {sl : Array (Option Value)} {head : Value} {hn : Bool} {Q : Unit → Shared → Prop}
    (hfr : A.frames = some (env :: outer)) (hl : s.heap.FunFrames B (env :: outer)) (hf : env.frame = some L) (he : s.heap.get? e = some ⟨c, d, .fields vs, sl⟩) (hz : 1 < vs.size)
    (h : ∀ h' T, Stp (frs (env :: outer)) (fun b => b = e) s.heap h' → s.heap.objs.size ≤ T → FlyT e T c d (rawInt L) h' → Q () { s with heap := h' }) :
    wpAny M A (do let a ← frameOf env; let pl ← entryPlaceOf L hn; let b ← EntryCells.newEntry head a .none (rawInt L) .none pl; setField (.ref e) 1 b) Q E s := by
  have nfr : e ∉ frs (env :: outer) := fun z => by
    obtain ⟨_, o, ho, nf⟩ := hl.mem z
    rw [he] at ho
    cases ho
    exact nf vs rfl
  refine wpAny_bind (wpAny_frameOf_fun hfr hl hf fun h1 ⟨z1, k1, sl1⟩ => wpAny_bind (wpAny_entryPlaceOf fun pl hpl => ?_))
  have he1 : h1.get? e = some ⟨c, d, .fields vs, sl⟩ := (k1 e nfr).trans he
  have lt : e < h1.objs.size := Heap.lt_size he1
  refine wpAny_bind ?_
  refine (show wpAny M A (newFields _ _) _ _ _ from wpAny_newObj_type ?_ ?_)
  · have he2 := Heap.get?_push_of_some { cls := .type "traceback", dict := none, data := .fields ([head, .ref L, .none, rawInt L, .none] ++ if pl.isEmpty = true then List.replicate 6 .none else pl).toArray } he1
    have hT2 : (h1.push { cls := .type "traceback", dict := none, data := .fields ([head, .ref L, .none, rawInt L, .none] ++ if pl.isEmpty = true then List.replicate 6 .none else pl).toArray }).get? h1.objs.size = _ := Heap.get?_push_size _ rfl
    refine wpAny_setField he2 rfl hz (h _ h1.objs.size ?_ (by rw [z1]; exact Nat.le_refl _) ⟨_, _, _, _, put_at 1 _ he2, ⟨rfl, rfl⟩, rfl, ?_, Ne.symm (Nat.ne_of_lt lt), (put_ne (Ne.symm (Nat.ne_of_lt lt))).trans hT2, rfl, ?_⟩)
    · refine Stp.trans (h1 := h1.push _) ⟨fun b o q z nf => Heap.get?_push_of_some _ ((k1 b nf).trans q), fun b o q z => ?_, fun b o q => ?_⟩ ((put_stp (o := ⟨c, d, .fields vs, sl⟩) 1 _ he2).mono (fun _ z => nomatch z) fun _ _ _ z => z)
      · obtain ⟨s', q'⟩ := sl1 b o q
        exact ⟨s', Heap.get?_push_of_some _ q'⟩
      · obtain ⟨s', q'⟩ := sl1 b o q
        exact ⟨_, Heap.get?_push_of_some _ q'⟩
    · rw [Array.getElem?_setIfInBounds_self, if_pos hz]
    · simp
  · show (_ : Array Value).size ≤ sizeLine + 2
    rcases hpl with rfl | ⟨_, _, _, _, _, _, _, rfl⟩ <;> (rw [sizeLine_eq]; show (11 : Nat) ≤ 16777218; decide)
theorem note_made {M : Model} {A : Around} {E : Value → Shared → Prop} {s : Shared} {B : Heap} {env : Env} {outer : List Env} {L e : Addr} {oe : Obj} {vs : Array Value} {Q : Unit → Shared → Prop}
    (hfr : A.frames = some (env :: outer)) (hl : s.heap.FunFrames B (env :: outer)) (hf : env.frame = some L) (he : s.heap.get? e = some oe) (hd : oe.data = .fields vs) (h1 : vs[1]? = some .none)
    (h : ∀ h' T, Stp (frs (env :: outer)) (fun b => b = e) s.heap h' → s.heap.objs.size ≤ T → FlyT e T oe.cls oe.dict (rawInt L) h' → Q () { s with heap := h' }) : wpAny M A (noteFrame (.ref e) env) Q E s := by
  obtain ⟨c, d, _, sl⟩ := oe
  obtain rfl := hd
  have hz : 1 < vs.size := (Array.getElem?_eq_some_iff.mp h1).1
  unfold noteFrame
  rw [hf]
  refine wpAny_bind (wpAny_field he rfl h1 ?_)
  exact entry_new hfr hl hf he hz h
theorem note_fly {M : Model} {A : Around} {E : Value → Shared → Prop} {s : Shared} {B : Heap} {env : Env} {outer : List Env} {L e T0 : Addr} {cls : Value} {dx : Option Addr} {Q : Unit → Shared → Prop}
    (hfr : A.frames = some (env :: outer)) (hl : s.heap.FunFrames B (env :: outer)) (hf : env.frame = some L) (x : FlyT e T0 cls dx .none s.heap)
    (h : ∀ h' T, Stp (frs (env :: outer)) (fun b => b = e ∨ b = T0) s.heap h' → s.heap.objs.size ≤ T → FlyT e T cls dx (rawInt L) h' → Q () { s with heap := h' }) : wpAny M A (noteFrame (.ref e) env) Q E s := by
  have xf := x.fields
  obtain ⟨⟨ce, de, _, sle⟩, vs, ⟨cT, dT, _, slT⟩, ts, he, ⟨rfl, rfl⟩, rfl, h1, ne, hT, rfl, h3⟩ := x
  have hz : 1 < vs.size := (Array.getElem?_eq_some_iff.mp h1).1
  have sz : 3 < ts.size := (Array.getElem?_eq_some_iff.mp h3).1
  have st : Stp [] (fun b => b = T0) s.heap (s.heap.update T0 (Obj.mapFields (·.setIfInBounds 3 .none))) := put_stp (o := ⟨ce, de, .fields vs, sle⟩) 3 .none hT
  unfold noteFrame
  rw [hf]
  refine wpAny_bind (wpAny_field he rfl h1 ?_)
  show wpAny M A (if (Value.ref T0 != Value.none) = true then _ else _) Q E s
  rw [if_pos (by rfl)]
  refine wpAny_bind (wpAny_field hT rfl h3 ?_)
  show wpAny M A (if (Value.none == rawInt L) = true then _ else _) Q E s
  rw [if_neg (by intro z; cases z)]
  refine wpAny_bind (wpAny_setField hT rfl sz ?_)
  have he2 := (put_ne (f := Obj.mapFields (·.setIfInBounds 3 .none)) (Ne.symm ne)).trans he
  have hl2 := st.frames (fun b o q z => xf b o q (.inr z)) hl
  refine entry_new (s := { s with heap := s.heap.update T0 (Obj.mapFields (·.setIfInBounds 3 .none)) }) hfr hl2 hf he2 hz fun h' T st2 lT fl => h h' T ?_ ?_ fl
  · exact (st.mono (fun _ z => nomatch z) fun _ _ _ z => .inr z).trans (st2.mono (fun _ z => z) fun _ _ _ z => .inl z)
  · rw [Heap.size_update] at lT; exact lT
end L2
end
section
set_option maxHeartbeats 4000001
namespace L2
open PySem PySem.Spec PyProof.Rows
def CX1 (P : Program) (w : World) : CXT := fun outer H s E e s' => ∃ (ea T : Addr) (cls : Value) (dx : Option Addr) (H' : Hp), e = .ref ea ∧ s'.os = s.os ∧ AllBare s'.gens ∧ Un (frs outer) [] H H' s.heap s'.heap ∧ HOk P w H' s'.heap ∧
  FlyT ea T cls dx .none s'.heap ∧ (s.heap.get? ea = none ∧ s.heap.get? T = none) ∧ (H' ea = none ∧ H' T = none) ∧ E cls dx H'
theorem Un.stp {fs fs' : List Addr} {Z : Addr → Prop} {H0 H : Hp} {g h h' : Heap} (u : Un fs [] H0 H g h) (x : Stp fs' Z h h') (hz : ∀ b, Z b → g.get? b = none) (hf : ∀ b o, g.get? b = some o → b ∈ fs' → b ∈ fs) : Un fs [] H0 H g h' := by
  have nz : ∀ b o, g.get? b = some o → ¬ Z b := fun b o q z => by rw [hz b z] at q; cases q
  refine ⟨fun b o q n nf _ => x.keep b o (u.keep b o q n nf (by simp)) (nz b o q) fun z => nf (hf b o q z), fun b o q n _ _ => ?_, u.free, fun b o q ne => ?_, u.tups, u.frzs, u.tbls⟩
  · obtain ⟨sl, q'⟩ := u.any q n (by simp)
    obtain ⟨sl', q2⟩ := x.slot b _ q' (nz b o q)
    exact ⟨sl', q2⟩
  · obtain ⟨o', q'⟩ := u.there b o q ne
    exact x.there b o' q'
theorem HOk.stp {P : Program} {w : World} {fs : List Addr} {Z : Addr → Prop} {H : Hp} {h h' : Heap} (ok : HOk P w H h) (x : Stp fs Z h h') (hz : ∀ b, Z b → H b = none) (hf : ∀ b ∈ fs, H b = none) : HOk P w H h' := fun a o e => by
  have tr : ∀ b, (b = a ∨ H b = some (.own a)) → ∃ u, H b = some u := by
    rintro b (rfl | q)
    · exact ⟨o, e⟩
    · exact ⟨_, q⟩
  refine (ok a o e).stay (fun b u q r => ?_) (fun _ q => q) fun _ _ q => q
  obtain ⟨u', hu⟩ := tr b q
  exact x.keep b u r (fun z => by rw [hz b z] at hu; cases hu) fun z => by rw [hf b z] at hu; cases hu
section
variable {P : Program} {w : World} {K : PySem.W.Frag} {mg : Str → Option Value} {base : Heap} {N : List Str} {qual : Str} {scope : Scope} {f : Addr} {cd : Value} {A : Around} {outer : List Env} {s : Shared} {H : Hp} {E : XK} {pins : List (Addr × Obj)} {σ : St}
theorem cx_frame {b : Addr} {o : Obj} {H1 : Hp} {s1 : Shared} (I : Inv (cxOf (CX1 P w) P w K mg base N qual scope f cd A outer s H E) pins σ H1 s1) (q : s.heap.get? b = some o) (hb : b ∈ frs (cxOf (CX1 P w) P w K mg base N qual scope f cd A outer s H E).stack) : b ∈ frs outer := by
  rcases List.mem_cons.mp (I.stkSub b hb) with z | z
  · exact absurd (Nat.lt_of_lt_of_le (Heap.lt_size q) I.ok.above) (by rw [z]; exact Nat.lt_irrefl _)
  · exact z
theorem older {H1 : Hp} {s1 : Shared} {T : Addr} (I : Inv (cxOf (CX1 P w) P w K mg base N qual scope f cd A outer s H E) pins σ H1 s1) (l : s1.heap.objs.size ≤ T) : s.heap.get? T = none :=
  Heap.get?_none_of_le (Nat.le_trans I.sz l)
theorem xe_made {H1 : Hp} {s1 : Shared} {ea : Addr} {oe : Obj} {vs : Array Value} (I : Inv (cxOf (CX1 P w) P w K mg base N qual scope f cd A outer s H E) pins σ H1 s1) (he : s1.heap.get? ea = some oe) (hd : oe.data = .fields vs) (h1 : vs[1]? = some .none)
    (hn : s.heap.get? ea = none) (hne : H1 ea = none) (hE : E oe.cls oe.dict H1) : (cxOf (CX1 P w) P w K mg base N qual scope f cd A outer s H E).xe (.ref ea) s1 := by
  show wpAny _ _ (leaving _ _) _ _ _
  unfold leaving
  refine wpAny_bind (note_made (B := base) I.ok.frames I.stack rfl he hd h1 fun h' T st lT fl => ?_)
  refine land fl fun h2 st2 fl2 => ?_
  have z1 : ∀ b, b = ea → s.heap.get? b = none := fun b q => by rw [q]; exact hn
  have z2 : ∀ b, b = T → s.heap.get? b = none := fun b q => by rw [q]; exact older I lT
  refine ⟨ea, T, _, _, H1, rfl, I.os, I.bare, ((show Un (frs outer) [] H H1 s.heap s1.heap from I.base).stp st z1 fun b o q hb => cx_frame I q hb).stp st2 z2 (fun _ _ _ z => nomatch z), ?_, fl2, ⟨hn, z2 T rfl⟩, ⟨hne, I.hok.fresh lT⟩, hE⟩
  exact HOk.stp (HOk.stp (P := P) (w := w) I.hok st (fun b q => by rw [q]; exact hne) fun b hb => I.stkFree b hb) st2 (fun b q => by rw [q]; exact I.hok.fresh lT) fun _ z => nomatch z
theorem Fun.ok1 {x qual : Str} {st : Stmt} {f : Addr} {fd : FuncData} {N ps : List Str} {k : Nat} {sp : Sp} (F : Fun K x qual st f fd) (S : FnScope N ps (defScope st)) (len : ∀ vs H Q E, sp vs H Q E → vs.length = ps.length)
    (hb : ∀ (cdv : Value) (A : Around) (outer : List Env) (s : Shared) (H : Hp) (vs : List V) (Q : VK) (E : XK), Room k (A.deeper (envOfC qual (defScope st) s.heap.objs.size f cdv)) → sp vs H Q E →
      ∃ t, PSs (cxOf (CX1 P w) P w K mg base N qual (defScope st) f cdv A outer s H E) (defBody st) t ∧ t { nx := fun _ H' => Q .non H', rt := Q } (start N vs) H) : FnOk P w K mg base (CX1 P w) (k + 1) f fd ps sp := by
  obtain ⟨oc, od, kV, doc, pm, an, cdv, ct, osl, rfl, lk, hcd⟩ := F.ex
  exact fn_of lk hcd S len fun A outer s H vs Q E hr hsp => hb cdv A outer s H vs Q E hr hsp
end
end L2
end
section
set_option maxHeartbeats 4000001
namespace L2
open PySem PySem.Spec PyProof.Rows
section
variable {X : Cx} {pins : List (Addr × Obj)} {σ : St} {H : Hp} {s : Shared}
theorem Inv.relocal {σ' : St} {h' : Heap} {m' : Str → Option Value} {t' : Nat} (I : Inv X pins σ H s) (hs : Heap.SameBut X.env.locals s.heap h') (hn' : h'.Ns X.env.locals m') (hl : σ'.length = σ.length)
    (q : ∀ (j : Nat) (y : Str) (v : V), X.N[j]? = some y → σ'[j]? = some (some v) → Vis X.env.scope y → ∃ u, RelV v u ∧ Look X.env h' m' y u) : Inv X pins σ' H { s with heap := h', toks := t' } := by
  have cne := I.cne
  have old : ∀ b o, X.s₀.heap.get? b = some o → b ≠ X.env.locals := fun b o e => Nat.ne_of_lt (Nat.lt_of_lt_of_le (Heap.lt_size e) I.ok.above)
  refine ⟨I.ok, I.os, I.bare, ⟨fun b o e n hb hx => ?_, fun b o e n hb hx => ?_, I.base.free, fun b o e hx => ?_, I.base.tups, I.base.frzs, I.base.tbls⟩, ⟨_, hn', q⟩, fun y c e => ?_, I.free, I.freeC, fun p hp => ?_, I.hok.sameBut I.free hs, hl.trans I.len⟩
  · exact (hs.2 b (old b o e)).trans (I.base.keep b o e n hb hx)
  · obtain ⟨sl, e1⟩ := I.base.slot b o e n hb hx
    exact ⟨sl, (hs.2 b (old b o e)).trans e1⟩
  · obtain ⟨o', e1⟩ := I.base.there b o e hx
    exact ⟨o', (hs.2 b (old b o e)).trans e1⟩
  · obtain ⟨v, z⟩ := I.cell y c e
    exact ⟨v, z.sameBut hs (cne y c e)⟩
  · obtain ⟨e, n, ne, nf, d⟩ := I.pin p hp
    exact ⟨(hs.2 p.1 ne).trans e, n, ne, nf, d⟩
theorem Look.sameBut {h h' : Heap} {m m' : Str → Option Value} {y : Str} {u : Value} {L : Addr} {env : Env} (l : Look env h m y u) (hs : Heap.SameBut L h h') (hm : m' y = m y) (cne : ∀ c, env.cells.lookup y = some c → c ≠ L) : Look env h' m' y u := by
  rcases l with ⟨k, e⟩ | ⟨k, c, e, z⟩
  · exact .inl ⟨k, hm.trans e⟩
  · exact .inr ⟨k, c, e, z.sameBut hs (cne c e)⟩
theorem name_goes {M : Model} {A : Around} {E : Value → Shared → Prop} {i : Nat} {n : Str} {pos : Pos} {Q : Unit → Shared → Prop} (I : Inv X pins σ H s) (hN : X.N.Nodup) (hi : X.N[i]? = some n) (hl : X.env.scope.names.lookup n = some .local)
    (h : ∀ s', Inv X pins (σ.set i none) H s' → Q () s') : wpAny M A (do bindName X.env n .none; unbindBehindTheSuite X.env n pos) Q E s := by
  have il : i < σ.length := by rw [I.len]; exact (List.getElem?_eq_some_iff.mp hi).1
  refine wpAny_bind (wpAny_bindName (store_ok (v := .non) I hN hi (.inl hl) rfl (fun s1 I1 => ?_) (.inr hl)))
  obtain ⟨m, ns, look⟩ := I1.loc
  have mn : ∃ u, m n = some u := by
    obtain ⟨u, _, l⟩ := look i n .non hi (List.getElem?_set_self il) (.inl hl)
    rcases l with ⟨_, e⟩ | ⟨k, _⟩
    · exact ⟨u, e⟩
    · have k0 : X.env.kindOf n = some .local := hl
      rw [k0] at k
      rcases k with k | k <;> cases k
  obtain ⟨u, hu⟩ := mn
  have kd : (X.env.scope.kind == .class || (X.env.scope.kind == .module && X.env.locals != X.env.globals)) = false := by
    rw [show X.env.scope.kind = .function from I1.ok.kind]; rfl
  unfold unbindBehindTheSuite
  refine wpAny_onRaise (wpAny_unbindName_local (v := u) hl ns hu kd fun h' u' ns' sb => ?_)
  have J := I1.relocal (σ' := (σ.set i (some .non)).set i none) (t' := s1.toks) sb ns' List.length_set fun j y v hj hv vis => ?_
  · rw [List.set_set] at J
    exact h _ J
  · by_cases z : j = i
    · rw [z, List.getElem?_set_self (by rw [List.length_set]; exact il)] at hv; cases hv
    · rw [List.getElem?_set_ne (Ne.symm z)] at hv
      have yn : y ≠ n := fun e => z (nodup_ix hN hj (e ▸ hi))
      obtain ⟨w, r, l⟩ := look j y v hj hv vis
      exact ⟨w, r, l.sameBut sb (if_neg yn) (I1.cne y)⟩
end
theorem exc_match {M : Model} {A : Around} {E : Value → Shared → Prop} {K : PySem.W.Frag} {s : Shared} {ea L : Addr} {oe : Obj} {cls : Value} {b : Bool} {Q : Bool → Shared → Prop} (X : K.In s.heap) (he : s.heap.get? ea = some oe) (hc : oe.cls = cls) (hx : PySem.W.exmOne K cls (.ref L) = some b)
    (q : Q b s) : wpAny M A (excMatches (.ref ea) (.ref L)) Q E s :=
  PySem.W.exm_one X (fun A' Q' E' s' k q' => wpAny_typeOf_ref (k _ _ he) (by rw [hc]; exact q')) hx A Q E s (fun _ _ z => z) q
end L2
end
section
set_option maxHeartbeats 4000001
namespace L2
open PySem PySem.Spec PyProof.Rows
abbrev Cx.held (X : Cx) (e : Addr) : Cx := { X with A := X.A.mark (some (.ref e)), calm := false }
def excO (e C : Addr) (dx : Option Addr) : HO := .ext fun h => ∃ o, h.get? e = some o ∧ o.cls = .ref C ∧ o.dict = dx ∧ ∃ vs, o.data = .fields vs
section
variable {X : Cx} {pins : List (Addr × Obj)} {σ : St} {H : Hp} {s : Shared}
theorem Cx.Ok.held (ok : X.Ok) (e : Addr) : (X.held e).Ok := ⟨ok.mod, ok.kind, ok.glob, ok.blt, ok.above, ok.inj, ok.has, ok.cab, (fun z => nomatch z), ok.frames, ok.stk, ok.exf, ok.bs, ok.bsz, ok.noex, ok.exfs, ok.funs, ok.frf⟩
theorem Inv.held (I : Inv X pins σ H s) (e : Addr) : Inv (X.held e) pins σ H s := ⟨I.ok.held e, I.os, I.bare, I.base, I.loc, I.cell, I.free, I.freeC, I.pin, I.hok, I.len⟩
theorem Inv.unheld {e : Addr} (ok : X.Ok) (I : Inv (X.held e) pins σ H s) : Inv X pins σ H s := ⟨ok, I.os, I.bare, I.base, I.loc, I.cell, I.free, I.freeC, I.pin, I.hok, I.len⟩
theorem Inv.track {e : Addr} {oe : Obj} {vs : Array Value} {o : HO} (I : Inv X pins σ H s) (he : s.heap.get? e = some oe) (hd : oe.data = .fields vs) (hn : H e = none) (h0 : X.s₀.heap.get? e = none) (hp : ∀ p ∈ X.pn ++ pins, p.1 ≠ e)
    (new : ObjOk X.prog X.w (upd H e o) s.heap e o) : Inv X pins σ (upd H e o) s := by
  have ne : ∀ b u, H b = some u → b ≠ e := fun b u q z => by rw [z, hn] at q; cases q
  refine ⟨I.ok, I.os, I.bare, ⟨I.base.keep, I.base.slot, fun b u q n hx => ?_, I.base.there, fun b xs q => ?_, fun b u xs q => ?_, fun b ps q => ?_⟩, I.loc, I.cell, ?_, fun x c q => ?_, fun p q => ?_, fun b u q => ?_, I.len⟩
  · rw [upd_ne (fun z => by rw [z, h0] at q; cases q)]; exact I.base.free b u q n hx
  · have z := I.base.tups b xs q
    rw [upd_ne (ne _ _ z)]; exact z
  · have z := I.base.frzs b u xs q
    rw [upd_ne (ne _ _ z)]; exact z
  · obtain ⟨m, z⟩ := I.base.tbls b ps q
    exact ⟨m, by rw [upd_ne (ne _ _ z)]; exact z⟩
  · obtain ⟨m, ⟨ol, es, ep, hol, hdl, _⟩, _⟩ := I.loc
    rw [upd_ne (fun z => by rw [z, he] at hol; cases hol; rw [hd] at hdl; cases hdl)]; exact I.free
  · obtain ⟨v, oc, hoc, hdc⟩ := I.cell x c q
    rw [upd_ne (fun z => by rw [z, he] at hoc; cases hoc; rw [hd] at hdc; cases hdc)]; exact I.freeC x c q
  · obtain ⟨a1, a2, a3, a4, a5⟩ := I.pin p q
    exact ⟨a1, by rw [upd_ne (hp p q)]; exact a2, a3, a4, a5⟩
  · by_cases z : b = e
    · subst z; rw [upd_same] at q; cases q; exact new
    · rw [upd_ne z] at q
      exact (I.hok b u q).stay (fun _ _ _ r => r) (fun c r => by rw [upd_ne (ne _ _ r)]; exact r) fun c xs r => by rw [upd_ne (ne _ _ r)]; exact r
def behind (i : Nat) (D : Ends) : Ends := { nx := fun σ H => D.nx (σ.set i none) H, rt := D.rt, bk := fun σ H => D.bk (σ.set i none) H, ct := fun σ H => D.ct (σ.set i none) H }
def tCatch (K : PySem.W.Frag) (i : Nat) (L : Addr) (ts : TS) (D : Ends) (σ : St) : XK := fun cls dx H2 => ∃ C, cls = .ref C ∧ PySem.W.exmOne K (.ref C) (.ref L) = some true ∧ ∀ e, H2 e = none → ts (behind i D) (σ.set i (some (.ref e))) (upd H2 e (excO e C dx))
theorem caught {i : Nat} {L : Addr} {n cn : Str} {b0 : Stmt} {suite : List Stmt} {np hpos : Pos} {ts : TS} {D : Ends} {H1 : Hp} {s1 s2 : Shared} {ev : Value} {rest : List ExceptHandler} (I : Inv X pins σ H1 s1) (hx : CX1 X.prog X.w X.stack H1 s1 (tCatch X.K i L ts D σ) ev s2)
    (hst : X.stack = X.env :: X.outer ∧ X.env.frame = some X.env.locals ∧ X.ex = []) (gC : Gl X cn) (mC : X.mg cn = some (.ref L)) (hdb : (cn == ("__debug__" : Str)) = false)
    (hN : X.N.Nodup) (hi : X.N[i]? = some n) (hl : X.env.scope.names.lookup n = some .local) (hs : ∀ e, PSs (X.held e).nox (b0 :: suite) ts) {E : Value → Shared → Prop} :
    wpAny (model X.prog X.w) X.A (noteFrame ev X.env) (fun _ s3 => wpAny (model X.prog X.w) X.A (setFlight ev none) (fun _ s4 => wpAny (model X.prog X.w) X.A (handleBy ev X.env (.ExceptHandler (some (.Name cn np)) (some n) (b0 :: suite) hpos :: rest)) (SP X pins D) E s4) E s3) E s2 := by
  obtain ⟨ea, T, cls, dx, H2, rfl, os, bare, un, hok, fl, ⟨n1, n2⟩, ⟨f1, f2⟩, C, rfl, hcon, k⟩ := hx
  have J : Inv X pins σ H2 s2 := I.call' os un hok bare fun b z => absurd z (by simp)
  have fr : X.A.frames = some (X.env :: X.outer) := by rw [← hst.1]; exact I.ok.frames
  have fu : s2.heap.FunFrames X.base (X.env :: X.outer) := by rw [← hst.1]; exact J.stack
  refine note_fly (B := X.base) fr fu hst.2.1 fl fun h3 T3 st3 l3 fl3 => ?_
  refine land fl3 fun h4 st4 fl4 => ?_
  have nT3 : s1.heap.get? T3 = none := by
    cases q : s1.heap.get? T3 with
    | none => rfl
    | some o =>
      obtain ⟨o', q'⟩ := un.there T3 o q (by simp)
      exact absurd (Heap.lt_size q') (Nat.not_lt.mpr l3)
  have z3 : ∀ b, (b = ea ∨ b = T) → s1.heap.get? b = none := by
    rintro b (q | q)
    · rw [q]; exact n1
    · rw [q]; exact n2
  have z3' : ∀ b, (b = ea ∨ b = T) → H2 b = none := by
    rintro b (q | q)
    · rw [q]; exact f1
    · rw [q]; exact f2
  have fT3 : H2 T3 = none := J.hok.fresh l3
  have un4 : Un (frs X.stack) [] H1 H2 s1.heap h4 := (un.stp st3 z3 fun b o _ hb => by rw [hst.1]; exact hb).stp st4 (fun b q => by rw [q]; exact nT3) (fun _ _ _ z => nomatch z)
  have hok4 : HOk X.prog X.w H2 h4 := HOk.stp (HOk.stp hok st3 z3' fun b hb => J.stkFree b (by rw [hst.1]; exact hb)) st4 (fun b q => by rw [q]; exact fT3) fun _ z => nomatch z
  have J4 : Inv X pins σ H2 { s2 with heap := h4 } := I.call' (s' := { s2 with heap := h4 }) os un4 hok4 bare fun b z => absurd z (by simp)
  obtain ⟨oe, vs, oT, tsv, he, ⟨hc, hdx⟩, hd, h1, ne, hT, hdT, h3'⟩ := id fl4
  refine wpAny_handleBy_cons (codeAny_handlers_test (ld_glob (J4.held ea) gC mC (exc_match (b := true) J4.kIn he hc hcon ?_) hdb)) (by intro q; cases q)
  refine codeAny_handlers_suite_as (land fl4 fun h5 st5 fl5 => ?_)
  have un5 : Un (frs X.stack) [] H1 H2 s1.heap h5 := un4.stp st5 (fun b q => by rw [q]; exact nT3) (fun _ _ _ z => nomatch z)
  have hok5 : HOk X.prog X.w H2 h5 := HOk.stp hok4 st5 (fun b q => by rw [q]; exact fT3) fun _ z => nomatch z
  have J5 : Inv X pins σ H2 { s2 with heap := h5 } := I.call' (s' := { s2 with heap := h5 }) os un5 hok5 bare fun b z => absurd z (by simp)
  obtain ⟨oe5, vs5, _, _, he5, ⟨hc5, hdx5⟩, hd5, _⟩ := id fl5
  have new0 : X.s₀.heap.get? ea = none := by
    cases q : X.s₀.heap.get? ea with
    | none => rfl
    | some o =>
      obtain ⟨o', q'⟩ := I.base.there ea o q (by rw [hst.2.2]; simp)
      rw [n1] at q'; cases q'
  have J6 : Inv X pins σ (upd H2 ea (excO ea C dx)) { s2 with heap := h5 } := by
    refine J5.track he5 hd5 f1 new0 (fun p hp z => ?_) ⟨⟨oe5, he5, hc5, hdx5, _, hd5⟩, ⟨oe5, he5⟩, fun ha hb ⟨o, q, r⟩ m => ⟨o, m o q, r⟩⟩
    have := (I.pin p hp).1
    rw [z, n1] at this; cases this
  refine store_ok (v := .ref ea) J6 hN hi (.inl hl) rfl (fun s7 J7 => ?_) (.inr hl)
  refine wpAny_mono (hs ea pins s7 _ _ (behind i D) ((J7.held ea).wish _) (k ea f1)) (fun f s8 q => ?_) fun _ _ z => z.elim
  have ok := I.ok
  cases f with
  | next => obtain ⟨σ', H', I', q'⟩ := q; exact name_goes (I'.unwish.unheld ok) hN hi hl fun s9 I9 => ⟨_, H', I9, q'⟩
  | brk => obtain ⟨σ', H', I', q'⟩ := q; exact name_goes (I'.unwish.unheld ok) hN hi hl fun s9 I9 => ⟨_, H', I9, q'⟩
  | cont => obtain ⟨σ', H', I', q'⟩ := q; exact name_goes (I'.unwish.unheld ok) hN hi hl fun s9 I9 => ⟨_, H', I9, q'⟩
  | ret u => obtain ⟨v, σ', H', I', r, q'⟩ := q; exact name_goes (I'.unwish.unheld ok) hN hi hl fun s9 I9 => ⟨v, _, H', I9, r, q'⟩
end
end L2
end
section
set_option maxHeartbeats 4000001
namespace L2
open PySem PySem.Spec PyProof.Rows
structure AtTry (X : Cx) : Prop where
  st : X.stack = X.env :: X.outer ∧ X.env.frame = some X.env.locals ∧ X.ex = []
  nox : ∀ e s, X.xe e s → False
structure XAt (X : Cx) (cn : Str) (L : Addr) : Prop where
  gl : Gl X cn
  mg : X.mg cn = some (.ref L)
  db : (cn == ("__debug__" : Str)) = false
section
variable {X : Cx} {k : Nat} {f L : Addr} {fd : FuncData} {ps : List Str} {sp : Sp} {x cn n : Str} {p cpos epos np hpos pos : Pos} {e : Expr} {es : List Expr} {t : TA} {i : Nat} {b0 : Stmt} {suite : List Stmt} {ts : TS} {rest : List ExceptHandler}
theorem callX {pins : List (Addr × Obj)} {s : Shared} {σ : St} {H : Hp} {Q : VK} {E : XK} (F : FnOk X.prog X.w X.K X.mg X.base (CX1 X.prog X.w) k f fd ps sp) (hr : Room k X.A) (hg : Gl X x) (hm : X.mg x = some (.ref f)) (hk : PySem.W.keepIn X.K (.ref f) = true) (hb : Binds X.K fd ps [])
    (hx : ∀ e s, X.xe e s → False) (ha : PA X (e :: es) t) (hdb : (x == ("__debug__" : Str)) = false) (he : starEach (e :: es) X.env = (false, eval e X.env) :: starEach es X.env) (hpl : (backTo pos (starEach es X.env)).any (·.1) = false)
    (I : Inv X pins σ H s) (h : t σ H fun vs H1 => sp vs H1 Q E) :
    wpAny (model X.prog X.w) X.A (eval (.Call (.Name x p) (e :: es) [] pos) X.env) (EP X pins σ Q) (fun ev s' => ∃ H1 s1, Inv X pins σ H1 s1 ∧ CX1 X.prog X.w X.stack H1 s1 E ev s') s := by
  refine wpAny_Call_Name_kw (ld_glob I hg hm ?_ hdb)
  refine PySem.W.callWith_K (h₀ := X.base) I.ok.mod.kin hk (wpAny_mono (ha pos pins s σ H _ I h) (fun us s1 ⟨vs, H1, I1, r, q⟩ => ⟨I1.kIn, ?_⟩) fun ev s1 z => (hx ev s1 z).elim) he hpl
  have hl : (us ++ ([] : List Value)).length = ps.length := by rw [List.append_nil, ← r.length]; exact F.len _ _ _ _ q
  have bd := hb s1 us I1.kIn hl
  rw [List.append_nil] at bd
  refine wpAny_call (codeAny_mono (F.run X.A X.stack s1 H1 ⟨us, []⟩ us vs Q E hr I1.env0 bd r q) fun res s' hq => ?_)
  cases res with
  | error ev => exact ⟨H1, s1, I1, hq⟩
  | ok fl =>
    cases fl with
    | ret u => exact I1.after hq
    | next => exact hq.elim
    | brk => exact hq.elim
    | cont => exact hq.elim
def tTryE (K : PySem.W.Frag) (i : Nat) (L : Addr) (sp : Sp) (t : TA) (ts : TS) : TS := fun D σ H => t σ H fun vs H1 => sp vs H1 (fun _ H2 => D.nx σ H2) (tCatch K i L ts D σ)
theorem ps_tryE (W : AtTry X) (F : FnOk X.prog X.w X.K X.mg X.base (CX1 X.prog X.w) k f fd ps sp) (hr : Room k X.A) (hg : Gl X x) (hm : X.mg x = some (.ref f)) (hk : PySem.W.keepIn X.K (.ref f) = true) (hb : Binds X.K fd ps []) (ha : PA X (e :: es) t)
    (C : XAt X cn L) (hN : X.N.Nodup) (hi : X.N[i]? = some n) (hl : X.env.scope.names.lookup n = some .local) (hs : ∀ e, PSs (X.held e).nox (b0 :: suite) ts)
    (hdb : (x == ("__debug__" : Str)) = false := by decide) (he : starEach (e :: es) X.env = (false, eval e X.env) :: starEach es X.env := by rfl) (hpl : (backTo cpos (starEach es X.env)).any (·.1) = false := by rfl)
    (hw : swapsWith (.Call (.Name x p) (e :: es) [] cpos) none epos.line X.env = pure false := by rfl) :
    PS X (.Try [.Expr (.Call (.Name x p) (e :: es) [] cpos) epos] (.ExceptHandler (some (.Name cn np)) (some n) (b0 :: suite) hpos :: rest) [] [] pos) (tTryE X.K i L sp t ts) := by
  intro pins s σ H D I h
  refine PySem.wpAny_Try_except (wpAny_execs_cons (wpAny_Expr_any (wpAny_mono (callX F hr hg hm hk hb W.nox ha hdb he hpl I h) (fun v s1 q => ?_) fun ev s2 q => ?_) I.quiet hw))
  · obtain ⟨y, H1, I1, r1, q1⟩ := q
    exact wpAny_execs_nil (wpAny_execs_nil ⟨σ, H1, I1, q1⟩)
  · obtain ⟨H1, s1, I1, q1⟩ := q
    exact caught I1 q1 W.st C.gl C.mg C.db hN hi hl hs
end
end L2
end
section
set_option maxHeartbeats 4000001
namespace L2
open PySem PySem.Spec PyProof.Rows
section
variable {h : Heap} {w : World} {prog : Program} {E : Value → Shared → Prop} {A : Around} {g : Array GenState} {os : OsState} {t : Nat} {d : Drawn}
variable {B newId initId : String} {bmB : List Value} {nm q : Str} {C N : Addr} {bs bm : List Value} {hdct : Bool} {sn : List Str} {sub : List Value} {ab : Bool} {col : Option Bool} {dd : Option Addr} {k0 k1 k2 k3 k5 : Option Value}
theorem xm_call (F : ExcBaseFacts B newId initId bmB) (T : OwnTail h bmB bm) {mN : Str → Option Value} {rest : List Value} {fI : Addr} {oI : Obj} {Q : Value → Shared → Prop}
    (hC : h.get? C = some (excClassObj nm q C N bs bm hdct sn sub ab col dd k0 k1 k2 k3 k5 newId)) (hn : h.Ns N mN) (hi : mN "__init__" = some (.ref fI)) (hfI : h.get? fI = some oI) (hfc : oI.cls = .type "function") (hrest : rest.length ≤ sizeLine)
    (hq : ∀ h' e, h.objs.size ≤ e → Heap.MadeExcOf h h' e (.ref C) rest → wpAny (model prog w) (A.under (.builtin "type.__call__" ⟨.ref C :: rest, []⟩)) (call (.ref fI) (.ref e :: rest)) (fun r s' => r = .none ∧ Q (.ref e) s') E ⟨h', g, d, t, os⟩) : wpAny (model prog w) A (call (.ref C) rest) Q E { heap := h, gens := g, drawn := d, toks := t, os := os } := by
  apply wpAny_call; apply codeAny_of_tree
  show wpAny _ _ (callAny (.ref C) ⟨rest, []⟩) _ _ _
  refine wpAny_bind (wpAny_load hC ?_)
  show wpAny _ _ (callAny.viaDunder (.ref C) ⟨rest, []⟩) _ _ _
  unfold callAny.viaDunder specialOf
  refine wpAny_bind (wpAny_bind (wpAny_typeOf_ref hC ?_))
  show wpAny _ _ (typeLookup (.type "type") "__call__") _ _ _
  rw [tc_lookup]
  refine wpAny_pure ?_
  show wpAny _ _ (bindSpecial (.builtin "type.__call__") (.ref C) >>= _) _ _ _
  rw [tc_bind]
  refine wpAny_bind (wpAny_pure (wpAny_bind (wpAny_pure (wpAny_pure ⟨rfl, ?_⟩))))
  have isT : PySem.W.Looks (model prog w) h (isInstance (.ref C) (.type "type")) true := fun A' Q' E' s' k q' => by
    unfold isInstance
    refine wpAny_bind (wpAny_typeOf_ref (k _ _ hC) ?_)
    show wpAny _ _ (isSubtype (.type "type") (.type "type")) _ _ _
    rw [tc_sub]
    exact wpAny_pure q'
  refine codeAny_call_builtin_at (Code.quiet_builtin _ (by decide +kernel)) entry_typeCall (PySem.W.check_slot tc_kind tc_split isT (PySem.W.tc_args _ _ _) ?_)
  delta Builtin.«type.__call__»; show wpAny _ _ (if (Value.ref C == Value.type "type") = true then _ else _) _ _ _
  rw [if_neg (by intro z; cases z)]
  show wpAny _ _ (mroOf (.ref C) >>= _) _ _ _
  refine wpAny_bind (wpAny_mroOf_exc hC ?_); show wpAny _ _ (if (Value.ref C :: bm).isEmpty = true then _ else _) _ _ _
  rw [if_neg (by intro z; cases z)]
  show wpAny _ _ (Bind.madeBy (.ref C) >>= _) _ _ _
  refine wpAny_bind (wpAny_madeBy_exc hC (wpAny_bind (wpAny_pure ?_)))
  show wpAny _ _ (holding [.builtin newId] (call (.builtin newId) (.ref C :: rest) []) >>= _) _ _ _
  refine wpAny_bind (wpAny_holding (wpAny_call (codeAny_call_builtin_code (Code.quiet_builtin _ F.quiet) (wpAny_check_new_subT F T hC (codeAny_exc_new_subT F T hC ?_ hrest)))))
  show wpAny _ _ _ _ _ ⟨(h.push { cls := .type "tuple", data := .seq rest.toArray }).push { cls := .ref C, data := .fields #[.ref h.objs.size, .none, .none, .none, .bool false, .none] }, g, d, t, os⟩
  generalize hE : h.objs.size + 1 = e
  generalize hH : (h.push { cls := .type "tuple", data := .seq rest.toArray }).push { cls := .ref C, data := .fields #[.ref h.objs.size, .none, .none, .none, .bool false, .none] } = h'
  have keep : ∀ b o, h.get? b = some o → h'.get? b = some o := fun b o z => by rw [← hH]; exact Heap.get?_push_of_some _ (Heap.get?_push_of_some _ z)
  have at_e : h'.get? e = some { cls := .ref C, data := .fields #[.ref h.objs.size, .none, .none, .none, .bool false, .none] } := by
    rw [← hH, ← hE, ← Heap.size_push h { cls := .type "tuple", data := .seq rest.toArray }]; exact Heap.get?_push_size _ rfl
  have made : Heap.MadeExcOf h h' e (.ref C) rest := ⟨keep, Heap.get?_none_of_le (by lia), h.objs.size, at_e, Heap.get?_none_of_le (Nat.le_refl _), by rw [← hH]; exact Heap.get?_push_of_some _ (Heap.get?_push_size _ rfl)⟩
  have hC' := keep _ _ hC
  show wpAny _ _ (isInstance (.ref e) (.ref C) >>= _) _ _ _
  unfold isInstance
  refine wpAny_bind (wpAny_bind (wpAny_typeOf_ref at_e ?_))
  show wpAny _ _ (isSubtype (.ref C) (.ref C)) _ _ _
  refine wpAny_isSubtype_exc hC' ?_
  rw [show (Value.ref C :: bm).contains (.ref C) = true by simp]
  show wpAny _ _ (holding [.ref e] (callSpecial? (.ref e) "__init__" rest []) >>= _) _ _ _
  unfold callSpecial? specialOf
  refine wpAny_bind (wpAny_holding (wpAny_bind (wpAny_bind (wpAny_typeOf_ref at_e ?_))))
  show wpAny _ _ (typeLookup (.ref C) "__init__") _ _ _
  refine wpAny_typeLookup_tail hC' (hn.keeps keep) (T.keeps keep) F.mroIs F.init.lookup ?_
  rw [hi]
  refine wpAny_holding (wpAny_bind (wpAny_bindSpecial_def (keep _ _ hfI) hfc (wpAny_bind (wpAny_mono (hq h' e (by lia) made) (fun r s' z => ?_) fun _ _ z => z))))
  obtain ⟨rfl, z⟩ := z
  refine wpAny_pure ?_
  show wpAny _ _ (if (Value.none != Value.none) = true then _ else _) _ _ _
  rw [if_neg (by decide)]
  exact wpAny_pure z
end
end L2
end
section
set_option maxHeartbeats 4000001
namespace L2
open PySem PySem.Spec PyProof.Rows
abbrev bmV : List Value := [.type "ValueError", .type "Exception", .type "BaseException", .type "object"]
section
variable {prog : Program} {w : World} {A : Around} {E : Value → Shared → Prop} {K : PySem.W.Frag} {hp : Heap} {gs : Array GenState} {dr : Drawn} {tk : Nat} {os : OsState} {nm q f : Str} {C N L e : Addr} {bs sub : List Value} {sn : List Str} {ab : Bool} {col : Option Bool} {dd : Option Addr} {k0 k1 k2 k3 k5 : Option Value} {nid : String} {oe : Obj} {u : Value} {Q : Unit → Shared → Prop}
theorem xs_attr (X : K.In hp) (hC : hp.get? C = some (excClassObj nm q C N bs (.ref L :: bmV) true sn sub ab col dd k0 k1 k2 k3 k5 nid)) (hs : PySem.W.findIn K (.ref C) "__setattr__" = some (some (.builtin "object.__setattr__"))) (hna : PySem.W.findIn K (.ref C) f = some none)
    (he : hp.get? e = some oe) (hc : oe.cls = .ref C) (hd : oe.dict = none) {vs : Array Value} (hn : oe.data = .fields vs)
    (h : ∀ h' tk', h'.get? e = some { oe with dict := some hp.objs.size } → h'.Ns1 hp.objs.size (fun y => if y = f then some u else none) → (∀ c o, c ≠ e → hp.get? c = some o → h'.get? c = some o) → Q () ⟨h', gs, dr, tk', os⟩) :
    wpAny (model prog w) A (setAttr (.ref e) f u) Q E ⟨hp, gs, dr, tk, os⟩ := by
  have I : PySem.W.InstAt hp e oe C none := ⟨he, hc, by unfold PySem.W.notCls; rw [hn], by rw [hd]; trivial⟩
  refine PySem.W.set_plain X I hs ?_
  have isO : PySem.W.Looks (model prog w) hp (isInstance (.ref e) (.type "object")) true := fun A' Q' E' s' k q' => by
    unfold isInstance
    refine wpAny_bind (wpAny_typeOf_ref (k _ _ he) ?_)
    rw [hc]
    obtain ⟨h', g', d', t', os'⟩ := s'
    exact wpAny_isSubtype_exc (k _ _ hC) q'
  refine codeAny_call_builtin PySem.F.slot_object_setattr.plain PySem.F.entry_object_sa ?_
  have ck := @PySem.W.check_slot (model prog w) A.in1 E ⟨hp, gs, dr, tk + 1, os⟩ "object.__setattr__" "object" "__setattr__" (.ref e) [.str f tk, u] []
  refine ck PySem.F.store_ValueError.kind PySem.F.store_ValueError.split isO (PySem.F.store_ValueError.args _ _ _) ?_
  rw [PySem.W.osa_eq, refuse_eq]
  refine wpAny_bind (wpAny_bind (wpAny_typeOf_ref he ?_))
  rw [hc]
  refine wpAny_bind (wpAny_mroOf_exc hC ?_); rw [refuseLoop_ref, refuseLoop_ref, PySem.F.store_ValueError.passes]
  refine wpAny_pure (wpAny_bind (wpAny_typeOf_ref he ?_))
  rw [hc]
  refine wpAny_bind (PySem.W.looks_findIn X hna _ _ _ _ (fun _ _ z => z) ?_)
  refine wpAny_bind (wpAny_pure ?_)
  show wpAny _ _ (Builtin.ObjectAttr.storeInOwnDict (.ref e) (.ref C) (.str f tk) f u false) _ _ _
  unfold Builtin.ObjectAttr.storeInOwnDict
  refine wpAny_bind (wpAny_pure ?_)
  show wpAny _ _ (if (Value.ref C == Value.type "module") = true then _ else _) _ _ _
  rw [if_neg (by intro z; cases z)]
  show wpAny _ _ (instanceDict e true >>= _) _ _ _
  unfold instanceDict
  refine wpAny_bind (wpAny_bind (wpAny_loadPart he ?_))
  obtain ⟨ce, de, dt, sl⟩ := oe
  obtain rfl : ce = .ref C := hc
  obtain rfl : de = none := hd
  obtain rfl : dt = .fields vs := hn
  show wpAny _ _ (classData C >>= _) _ _ _
  unfold classData
  refine wpAny_bind (wpAny_bind (wpAny_load hC (wpAny_pure ?_)))
  show wpAny _ _ (if (!true) = true then _ else _) _ _ _; rw [if_neg (by decide)]
  show wpAny _ _ (if (!true || !true) = true then _ else _) _ _ _
  rw [if_neg (by decide)]
  show wpAny _ _ (alloc { cls := .type "dict", data := .dict #[] } >>= _) _ _ _
  refine wpAny_bind (wpAny_alloc (wpAny_bind (wpAny_update (Heap.get?_push_of_some _ he) (wpAny_pure ?_))))
  have lt : e < hp.objs.size := Heap.lt_size he
  have ne : e ≠ hp.objs.size := Nat.ne_of_lt lt
  generalize hG : (hp.push { cls := .type "dict", data := .dict #[] }).update e (fun o => { o with dict := some hp.objs.size }) = h2
  have at2 : h2.get? e = some ⟨.ref C, some hp.objs.size, .fields vs, sl⟩ := by
    rw [← hG]
    exact Heap.get?_update_self _ (Heap.get?_push_of_some _ he) rfl
  have other : ∀ c o, c ≠ e → (hp.push { cls := .type "dict", data := .dict #[] }).get? c = some o → h2.get? c = some o := fun c o z r => by rw [← hG, Heap.get?_update_other _ _ (Ne.symm z)]; exact r
  have ns2 : h2.Ns1 hp.objs.size fun _ => none := ⟨{ cls := .type "dict", data := .dict #[] }, #[], 0, other _ _ (Ne.symm ne) (Heap.get?_push_size _ rfl), rfl, by simp [StrKeys], by simp [UniqKeys], fun _ => rfl⟩
  show wpAny _ _ (Builtin.ObjectAttr.storeInDict hp.objs.size (.str f tk) f u) _ _ _
  unfold Builtin.ObjectAttr.storeInDict
  refine wpAny_bind (wpAny_pure (wpAny_bind (wpAny_nsSet1 ns2 fun h3 ns3 sb3 => ?_)))
  obtain ⟨o3, es3, ep3, g3, d3, z3⟩ := ns3.count (ns := [f]) (Within.cons f u Within.nil)
  refine wpAny_bind (wpAny_lookBehind g3 ?_ (wpAny_pure (h h3 _ ((sb3.2 e ne).trans at2) ns3 fun c o z r => ?_)))
  · rw [d3]
    show (if es3.size > sizeLine + 1 then some "dict:memory" else none) = none
    rw [if_neg]
    rw [sizeLine_eq]
    have : es3.size ≤ 1 := z3
    lia
  · have cn : c ≠ hp.objs.size := Nat.ne_of_lt (Heap.lt_size r)
    exact (sb3.2 c cn).trans (other c o z (Heap.get?_push_of_some _ r))
end
end L2
end
section
set_option maxHeartbeats 4000001
namespace L2
open PySem PySem.Spec PyProof.Rows
theorem xi_call {prog : Program} {w : World} {A : Around} {E : Value → Shared → Prop} {hp : Heap} {gs : Array GenState} {dr : Drawn} {tk : Nat} {os : OsState} {B nid initId newId : String} {bmB bm bs sub : List Value} {nm q : Str} {C N e t0 : Addr} {hdct ab : Bool} {sn : List Str} {col : Option Bool} {dd dx : Option Addr} {k0 k1 k2 k3 k5 : Option Value} {rest : List Value} {Q : Value → Shared → Prop}
    (F : ExcBaseFacts B nid initId bmB) (T : OwnTail hp bmB bm) (hC : hp.get? C = some (excClassObj nm q C N bs bm hdct sn sub ab col dd k0 k1 k2 k3 k5 newId))
    (he : hp.get? e = some { cls := .ref C, dict := dx, data := .fields #[.ref t0, .none, .none, .none, .bool false, .none] }) (hr : rest.length ≤ sizeLine)
    (hq : ∀ h', (∀ b o, b ≠ e → hp.get? b = some o → h'.get? b = some o) → (∃ t1, h'.get? e = some { cls := .ref C, dict := dx, data := .fields #[.ref t1, .none, .none, .none, .bool false, .none] }) → Q .none ⟨h', gs, dr, tk, os⟩) :
    wpAny (model prog w) A (call (.builtin initId) (.ref e :: rest)) Q E ⟨hp, gs, dr, tk, os⟩ := by
  refine wpAny_call (codeAny_call_builtin F.init.plain F.initEntry (wpAny_check_init_subU F T hC he rfl ?_))
  delta Builtin.«BaseException.__init__»; skip
  show wpAny _ _ (newTuple rest >>= _) _ _ _
  have he2 := Heap.get?_push_of_some { cls := .type "tuple", data := .seq rest.toArray } he
  refine wpAny_bind (wpAny_newTuple ?_ hr)
  unfold Builtin.BaseException.bexcPut
  refine wpAny_bind (wpAny_bind (wpAny_field he2 rfl rfl (wpAny_bind (wpAny_setField he2 rfl (show 0 < 6 by decide) (wpAny_letGo ?_)))))
  refine wpAny_pure (hq _ (fun b o z r => (put_ne z).trans (Heap.get?_push_of_some _ r)) ⟨hp.objs.size, put_at 0 _ he2⟩)
end L2
end
section
set_option maxHeartbeats 4000001
namespace L2
open PySem PySem.Spec PyProof.Rows
def newX (e C : Addr) (dx : Option Addr) : HO := .ext fun h => ∃ t, h.get? e = some { cls := .ref C, dict := dx, data := .fields #[.ref t, .none, .none, .none, .bool false, .none] }
theorem newX_ok {P : Program} {w : World} {H : Hp} {h : Heap} {e C t : Addr} {dx : Option Addr} (q : h.get? e = some { cls := .ref C, dict := dx, data := .fields #[.ref t, .none, .none, .none, .bool false, .none] }) : ObjOk P w H h e (newX e C dx) :=
  ⟨⟨t, q⟩, ⟨_, q⟩, fun _ _ ⟨t', q'⟩ m => ⟨t', m _ q'⟩⟩
structure XOwn (K : PySem.W.Frag) (C L fI : Addr) : Prop where
  cl : ∃ nm q N bs sn sub ab col dd k0 k1 k2 k3 k5, K.lookup C = some (excClassObj nm q C N bs (.ref L :: bmV) true sn sub ab col dd k0 k1 k2 k3 k5 "ValueError.__new__") ∧ PySem.W.nsOkIn K N = true ∧ PySem.W.nsIn K N "__init__" = some (some (.ref fI))
  tl : PySem.W.tailIn K bmV (.ref L :: bmV) = true
  fl : ∃ oI, K.lookup fI = some oI ∧ oI.cls = .type "function"
  set : PySem.W.findIn K (.ref C) "__setattr__" = some (some (.builtin "object.__setattr__"))
  kp : PySem.W.keepIn K (.ref C) = true
structure XBase (K : PySem.W.Frag) (L : Addr) : Prop where
  sp : PySem.W.specialIn K (.ref L) "__getattribute__" = some (some (.builtin "type.__getattribute__"))
  rd : PySem.W.readsIn K L (.type "type") = true
  fd : PySem.W.findCls K (.ref L) (.type "type") "__init__" = some (.val (.builtin "ValueError.__init__"))
theorem upd_id {H : Hp} {a : Addr} {o : HO} (h : H a = some o) : upd H a o = H := by
  funext b
  by_cases z : b = a
  · rw [z, upd_same, h]
  · rw [upd_ne z]
section
variable {X : Cx} {C L fI : Addr} {cn f : Str} {np apos pos pos' : Pos} {a b o value : Expr} {t : TA} {ta tv : TE}
def tXInit (C : Addr) (t : TA) : TE := fun σ H Q => t σ H fun vs H1 => ∃ e v dx, vs = [.ref e, v] ∧ H1 e = some (newX e C dx) ∧ Q .non H1
theorem pe_xinit {pl : Sem Bool} (B : XBase X.K L) (O : XOwn X.K C L fI) (gl : Gl X cn) (mg : X.mg cn = some (.ref L)) (ha : PA X [a, b] t) (hdb : (cn == ("__debug__" : Str)) = false := by decide)
    (hst : starEach [a, b] X.env = (false, eval a X.env) :: starEach [b] X.env := by rfl) (hpl : (backTo pos (starEach [b] X.env)).any (·.1) = false := by rfl)
    (ht : eval (.Call (.Attribute (.Name cn np) "__init__" apos) [a, b] [] pos) X.env = (do
      let ov ← eval (.Name cn np) X.env
      standAt apos.atName
      let (f, first) ← holding [ov] (getMethod ov "__init__" pl)
      callWith pos f first (backTo pos (starEach [a, b] X.env)) (backToKw pos (keywordEach [] X.env))) := by rfl) :
    PE X (.Call (.Attribute (.Name cn np) "__init__" apos) [a, b] [] pos) (tXInit C t) := by
  intro pins s σ H Q I h
  refine PySem.W.methodCall_KW (pl := pl) (ld_glob I gl mg (PySem.W.method_cls I.kIn B.sp (PySem.W.cls_value I.kIn B.rd B.fd rfl ?_)) hdb) ht
  refine PyProof.Rows.callWith_builtin1 (thn (ha pos pins _ σ H _ (I.tok _) h) fun us s1 ⟨vs, H1, I1, r, e, v, dx, ev, he, qq⟩ => ?_) hst hpl
  subst ev
  obtain ⟨u1, u2, rfl, r1, r2⟩ := Vals.two r
  obtain rfl : u1 = Value.ref e := r1
  obtain ⟨⟨t0, g0⟩, _, _⟩ := I1.hok e _ he
  obtain ⟨nm, q, N, bs, sn, sub, ab, col, dd, k0, k1, k2, k3, k5, lC, _⟩ := O.cl
  have kin := I1.kIn
  obtain ⟨hp, g, d, tk, os⟩ := s1
  refine xi_call PySem.F.excBase_ValueError (PySem.W.tail_of_in kin O.tl) (kin _ _ lC) g0 (by show 1 ≤ sizeLine; decide) fun h' keep new => ?_
  obtain ⟨t1, new⟩ := new
  have W := I1.write (h' := h') (t' := tk) (o := newX e C dx) (by rw [he]; exact trivial) (.inl rfl) keep ⟨_, new⟩ (newX_ok new)
  rw [upd_id he] at W
  exact ⟨.non, H1, W, rfl, qq⟩
end
end L2
end
section
set_option maxHeartbeats 4000001
namespace L2
open PySem PySem.Spec PyProof.Rows
section
variable {X : Cx} {C L fI : Addr} {cn f : Str} {np apos pos pos' : Pos} {a b o value : Expr} {t : TA} {ta tv : TE}
def tXSet (C : Addr) (ta tv : TE) (f : Str) : TS := fun D σ H => tv σ H fun y H1 => ta σ H1 fun x H2 => ∃ e, x = .ref e ∧ H2 e = some (newX e C none) ∧ ∀ dx, H2 dx = none → dx ≠ e → D.nx σ (upd (upd H2 dx (.xd [(f, y)])) e (newX e C (some dx)))
theorem ps_xset (O : XOwn X.K C L fI) (hna : PySem.W.findIn X.K (.ref C) f = some none) (ha : PE X o ta) (hv : PE X value tv) (hs : swapsWith value (some (.Attribute o f pos')) pos.line X.env = pure false := by rfl) : PS X (.Assign [.Attribute o f pos'] value pos) (tXSet C ta tv f) := by
  intro pins s σ H D I h
  refine plainObj_wpAny_Assign_Attribute (thn (hv pins s σ H _ I h) fun u s1 ⟨y, H1, I1, ry, q⟩ => thn (ha pins s1 σ H1 _ I1 q) fun ov s2 ⟨x, H2, I2, rx, e, ex, ee, qq⟩ => ?_) hs
  subst ex
  obtain rfl : ov = Value.ref e := rx
  obtain ⟨⟨t0, g0⟩, _, _⟩ := I2.hok e _ ee
  obtain ⟨nm, q, N, bs, sn, sub, ab, col, dd, k0, k1, k2, k3, k5, lC, _⟩ := O.cl
  have kin := I2.kIn
  obtain ⟨hp, g, d, tk, os⟩ := s2
  have le : e < hp.objs.size := Heap.lt_size g0
  have nd : H2 hp.objs.size = none := I2.hok.fresh (Nat.le_refl _)
  have ned : hp.objs.size ≠ e := Nat.ne_of_gt le
  have mu : ∀ c u, H2 c = some u → (∀ φ, u ≠ .ext φ) → c ≠ e := fun c u z nz zz => by rw [zz, ee] at z; exact nz _ (Option.some.inj z).symm
  have nn : ∀ c u, H2 c = some u → c ≠ hp.objs.size := fun c u z zz => by rw [zz, nd] at z; cases z
  refine xs_attr kin (kin _ _ lC) O.set hna g0 rfl rfl rfl fun h' tk' a1 a2 a3 => ?_
  refine ⟨σ, _, I2.un (h' := h') (t' := tk') ⟨fun c ob z n _ _ => ?_, fun c ob z n _ _ => ?_, fun c ob z n _ => ?_, fun c ob z _ => ?_, fun c xs z => ?_, fun c ob u z => ?_, fun c ps z => ?_⟩ (fun c u z => ?_), qq hp.objs.size nd ned⟩
  · exact a3 c ob (fun zz => by rw [zz, ee] at n; cases n) z
  · exact ⟨ob.slots, a3 c ob (fun zz => by rw [zz, ee] at n; cases n) z⟩
  · rw [upd_ne (fun zz => by rw [zz, ee] at n; cases n), upd_ne (Nat.ne_of_lt (Heap.lt_size z))]; exact n
  · by_cases zz : c = e
    · rw [zz]; exact ⟨_, a1⟩
    · exact ⟨ob, a3 c ob zz z⟩
  · rw [upd_ne (mu _ _ z fun φ w => nomatch w), upd_ne (nn _ _ z)]; exact z
  · rw [upd_ne (mu _ _ z fun φ w => nomatch w), upd_ne (nn _ _ z)]; exact z
  · exact ⟨#[], by rw [upd_ne (mu _ _ z fun φ w => nomatch w), upd_ne (nn _ _ z), z]; simp⟩
  · by_cases ce : c = e
    · subst ce
      rw [upd_same] at z; cases z
      exact newX_ok a1
    · rw [upd_ne ce] at z
      by_cases cd : c = hp.objs.size
      · subst cd
        rw [upd_same] at z; cases z
        refine ⟨_, a2, fun n => ?_⟩
        by_cases w : n = f
        · subst w
          have e1 : List.lookup n [(n, y)] = some y := by simp [List.lookup]
          rw [e1, if_pos rfl]; exact ry
        · have e1 : List.lookup n [(f, y)] = none := by simp [List.lookup, beq_eq_false_iff_ne.mpr w]
          rw [e1, if_neg w]; trivial
      · rw [upd_ne cd] at z
        refine (I2.hok c u z).stay (fun c' ob w r => a3 c' ob ?_ r) (fun c' w => ?_) fun c' xs w => ?_
        · rcases w with w | w
          · rw [w]; exact ce
          · exact mu _ _ w fun φ w => nomatch w
        · rw [upd_ne (mu _ _ w fun φ w => nomatch w), upd_ne (nn _ _ w)]; exact w
        · rw [upd_ne (mu _ _ w fun φ w => nomatch w), upd_ne (nn _ _ w)]; exact w
end
def cut (H : Hp) (e : Addr) : Hp := fun b => if b = e then none else H b
theorem cut_ne {H : Hp} {e b : Addr} (h : b ≠ e) : cut H e b = H b := by unfold cut; rw [if_neg h]
theorem cut_at {H : Hp} {e : Addr} : cut H e e = none := by unfold cut; rw [if_pos rfl]
theorem Inv.untrack {X : Cx} {pins : List (Addr × Obj)} {σ : St} {H : Hp} {s : Shared} {e : Addr} {φ : Heap → Prop} (I : Inv X pins σ H s) (he : H e = some (.ext φ)) : Inv X pins σ (cut H e) s := by
  have ne : ∀ c u, H c = some u → (∀ φ, u ≠ .ext φ) → c ≠ e := fun c u z nz zz => by rw [zz, he] at z; exact nz _ (Option.some.inj z).symm
  have no : ∀ c, H c = none → cut H e c = none := fun c z => by unfold cut; split <;> first | rfl | exact z
  refine ⟨I.ok, I.os, I.bare, ⟨I.base.keep, I.base.slot, fun b u q n hx => no b (I.base.free b u q n hx), I.base.there, fun b xs q => ?_, fun b u xs q => ?_, fun b ps q => ?_⟩, I.loc, I.cell, no _ I.free, fun x c q => no _ (I.freeC x c q), fun p q => ?_, fun b u q => ?_, I.len⟩
  · have z := I.base.tups b xs q
    rw [cut_ne (ne _ _ z fun φ w => nomatch w)]; exact z
  · have z := I.base.frzs b u xs q
    rw [cut_ne (ne _ _ z fun φ w => nomatch w)]; exact z
  · obtain ⟨m, z⟩ := I.base.tbls b ps q
    exact ⟨m, by rw [cut_ne (ne _ _ z fun φ w => nomatch w)]; exact z⟩
  · obtain ⟨a1, a2, a3, a4, a5⟩ := I.pin p q
    exact ⟨a1, no _ a2, a3, a4, a5⟩
  · have nb : b ≠ e := fun z => by rw [z, cut_at] at q; cases q
    rw [cut_ne nb] at q
    exact (I.hok b u q).stay (fun _ _ _ r => r) (fun c r => by rw [cut_ne (ne _ _ r fun φ w => nomatch w)]; exact r) fun c xs r => by rw [cut_ne (ne _ _ r fun φ w => nomatch w)]; exact r
end L2
end
section
set_option maxHeartbeats 4000001
namespace L2
open PySem PySem.Spec PyProof.Rows
theorem ns_some {K : PySem.W.Frag} {h : Heap} {N : Addr} {m : Str → Option Value} {n : Str} {v : Value} (X : K.In h) (G : h.Ns N m) (e : PySem.W.nsIn K N n = some (some v)) : m n = some v := by
  obtain ⟨o, es, ep, go, dt, _, ff⟩ := G
  unfold PySem.W.nsIn at e
  cases hl : K.lookup N with
  | none => rw [hl] at e; cases e
  | some ob =>
    obtain rfl := Option.some.inj ((X _ _ hl).symm.trans go)
    obtain ⟨c, d, dt', sl⟩ := ob
    obtain rfl : dt' = .dict es ep := dt
    rw [hl] at e
    have e' : (match es.toList.find? (·.key.isStr n) with | some en => some (some en.val) | none => if es.toList.any (·.refKey) then none else some none) = some (some v) := e
    rw [← ff n]
    unfold nsFind findBy
    cases hf : es.toList.find? (·.key.isStr n) with
    | none =>
      rw [hf] at e'
      exfalso
      revert e'
      show (if (es.toList.any fun x => x.refKey) = true then none else some none) = some (some v) → False
      split <;> intro z <;> cases z
    | some en =>
      rw [hf] at e'
      have e2 : some (some en.val) = some (some v) := e'
      rw [← Array.find?_toList, hf]
      exact Option.some.inj e2
theorem raise_of {M : Model} {A : Around} {E : Value → Shared → Prop} {s : Shared} {env : Env} {x : Sem Value} {Q : Flow → Shared → Prop} {nm q : Str} {C N : Addr} {bs bm sub : List Value} {hdct ab : Bool} {sn : List Str} {col : Option Bool} {dd : Option Addr} {k0 k1 k2 k3 k5 : Option Value} {newId : String}
    (hb : (Value.ref C :: bm).contains (.type "BaseException") = true) (hh : A.handled = none)
    (h : wpAny M A x (fun v s1 => ∃ e t dx, v = .ref e ∧ s1.heap.get? C = some (excClassObj nm q C N bs bm hdct sn sub ab col dd k0 k1 k2 k3 k5 newId) ∧ s1.heap.get? e = some { cls := .ref C, dict := dx, data := .fields #[.ref t, .none, .none, .none, .bool false, .none] } ∧ E (.ref e) s1) E s) : wpAny M A (raiseStmt env (some x) none) Q E s := by
  unfold raiseStmt
  refine wpAny_bind (wpAny_mono h (fun v s1 z => ?_) fun _ _ z => z)
  obtain ⟨e, t, dx, rfl, hC, he, hE⟩ := z
  obtain ⟨hp, gs, dr, tk, os⟩ := s1
  have noType : ∀ {α : Type} {k : Bool → Sem α} {Q' : α → Shared → Prop}, wpAny M A (k false) Q' E ⟨hp, gs, dr, tk, os⟩ → wpAny M A (isType (.ref e) >>= k) Q' E ⟨hp, gs, dr, tk, os⟩ := fun z => by
    unfold isType loadHead
    exact wpAny_bind (wpAny_bind (wpAny_loadPart he (wpAny_pure z)))
  have isB : ∀ {α : Type} {k : Bool → Sem α} {Q' : α → Shared → Prop}, wpAny M A (k true) Q' E ⟨hp, gs, dr, tk, os⟩ → wpAny M A (isInstance (.ref e) (.type "BaseException") >>= k) Q' E ⟨hp, gs, dr, tk, os⟩ := fun z => by
    unfold isInstance
    refine wpAny_bind (wpAny_bind (wpAny_typeOf_ref he ?_))
    show wpAny _ _ (isSubtype (.ref C) (.type "BaseException")) _ _ _
    refine wpAny_isSubtype_exc hC ?_
    rw [hb]; exact z
  refine wpAny_bind (wpAny_pure ?_)
  refine wpAny_bind (wpAny_holding ?_); unfold excFromValue isExcClass
  refine wpAny_bind (noType (wpAny_pure ?_))
  show wpAny _ _ (isInstance (.ref e) (.type "BaseException") >>= _) _ _ _
  refine isB (wpAny_pure ?_)
  show wpAny _ _ (isType (.ref e) >>= _) _ _ _
  refine noType ?_
  show wpAny _ _ (raisedInstance (.ref e) >>= _) _ _ _
  unfold raisedInstance
  refine wpAny_bind (wpAny_bind (wpAny_typeOf_ref he ?_))
  show wpAny _ _ (typeOf (.ref C) >>= _) _ _ _
  refine wpAny_bind (wpAny_typeOf_ref hC ?_)
  show wpAny _ _ (if (Value.type "type" == Value.type "type") = true then _ else _) _ _ _
  rw [if_pos (by decide)]
  refine wpAny_pure ?_
  unfold setFlight
  refine wpAny_bind (wpAny_bind (wpAny_field he rfl rfl ?_))
  show wpAny _ _ (if (Value.none != Value.none) = true then _ else _) _ _ _
  rw [if_neg (by decide)]
  exact wpAny_pure (wpAny_raiseNew_none hh hE)
def spXI (C : Addr) (f : Str) (good : V → Prop) : Sp := fun vs H Q _ => ∃ e v, vs = [.ref e, v] ∧ good v ∧ H e = some (newX e C none) ∧ ∀ dx, H dx = none → dx ≠ e → Q .non (upd (upd H dx (.xd [(f, v)])) e (newX e C (some dx)))
def tRaiseX (C : Addr) (f : Str) (good : V → Prop) (E : XK) (t : TA) : TS := fun _ σ H => t σ H fun vs H1 => ∃ v, vs = [v] ∧ good v ∧ ∀ dx, H1 dx = none → E (.ref C) (some dx) (upd H1 dx (.xd [(f, v)]))
section
variable {P : Program} {w : World} {K : PySem.W.Frag} {mg : Str → Option Value} {base : Heap} {N : List Str} {qual : Str} {scope : Scope} {fn : Addr} {cd : Value} {A : Around} {outer : List Env} {s : Shared} {H : Hp} {E : XK}
theorem ps_raiseX {C L fI : Addr} {fd : FuncData} {k : Nat} {par f cn : Str} {good : V → Prop} {np cpos pos : Pos} {a : Expr} {t : TA} (O : XOwn K C L fI) (F : FnOk P w K mg base CX0 k fI fd ["self", par] (spXI C f good)) (hb : Binds K fd ["self", par] [])
    (hr : Room (k + 1) (cxOf (CX1 P w) P w K mg base N qual scope fn cd A outer s H E).A) (gl : Gl (cxOf (CX1 P w) P w K mg base N qual scope fn cd A outer s H E) cn) (hm : mg cn = some (.ref C)) (ha : PA (cxOf (CX1 P w) P w K mg base N qual scope fn cd A outer s H E).nox [a] t)
    (hdb : (cn == ("__debug__" : Str)) = false := by decide) (he : starEach [a] (cxOf (CX1 P w) P w K mg base N qual scope fn cd A outer s H E).env = [(false, eval a (cxOf (CX1 P w) P w K mg base N qual scope fn cd A outer s H E).env)] := by rfl) :
    PS (cxOf (CX1 P w) P w K mg base N qual scope fn cd A outer s H E) (.Raise (some (.Call (.Name cn np) [a] [] cpos)) none pos) (tRaiseX C f good E t) := by
  intro pins s1 σ H1 D I h
  rw [arm_exec_Raise]
  obtain ⟨nm, q, Nn, bs, sn, sub, ab, col, dd, k0, k1, k2, k3, k5, lC, nsok, nsi⟩ := O.cl
  refine wpAny_bind (wpAny_standAt (raise_of (C := C) (nm := nm) (q := q) (N := Nn) (bs := bs) (bm := .ref L :: bmV) (sub := sub) (hdct := true) (ab := ab) (sn := sn) (col := col) (dd := dd) (k0 := k0) (k1 := k1) (k2 := k2) (k3 := k3) (k5 := k5) (newId := "ValueError.__new__") (by rw [List.contains_cons, List.contains_cons]; simp [bmV]) (I.ok.hd rfl) (wpAny_bind (wpAny_mono (?_ : wpAny _ _ (eval (.Call (.Name cn np) [a] [] cpos) _) _ _ _) (fun v s3 z => wpAny_bind (wpAny_standAt (wpAny_pure z))) fun _ _ z => z))))
  refine wpAny_Call_Name_kw (ld_glob I gl hm ?_ hdb)
  refine PySem.W.callWith_K (h₀ := base) I.ok.mod.kin O.kp (wpAny_mono (ha cpos pins s1 σ H1 _ (I.wish _) h) (fun us s2 z => ?_) fun _ _ z => z.elim) he rfl
  obtain ⟨vs, H2, I2, r, v, ev, gv, qq⟩ := z
  have I2 := I2.unwish
  subst ev
  have kin := I2.kIn
  refine ⟨kin, ?_⟩
  obtain ⟨u, rfl, ru⟩ : ∃ u, us = [u] ∧ RelV v u := by
    cases r with
    | cons p r => cases r; exact ⟨_, rfl, p⟩
  obtain ⟨oI, lI, hcI⟩ := O.fl
  have hI := kin _ _ lI
  obtain ⟨hp, g, d, tk, os⟩ := s2
  refine xm_call PySem.F.excBase_ValueError (PySem.W.tail_of_in kin O.tl) (kin _ _ lC) (.of_isNs (PySem.W.isNs_of_in kin nsok)) (?_ : hp.nsMap Nn "__init__" = some (.ref fI)) hI hcI (by show 1 ≤ sizeLine; decide) fun h' e le made => ?_
  · exact ns_some kin (.of_isNs (PySem.W.isNs_of_in kin nsok)) nsi
  obtain ⟨t0, ge, _, _⟩ := made.there
  have I3 : Inv (cxOf (CX1 P w) P w K mg base N qual scope fn cd A outer s H E) pins σ (upd H2 e (newX e C none)) ⟨h', g, d, tk, os⟩ := I2.laid (h' := h') (t' := tk) made.keeps le (newX_ok ge)
  have fe : H2 e = none := I2.hok.fresh le
  have sp : spXI C f good [.ref e, v] (upd H2 e (newX e C none)) (fun x H4 => x = .non ∧ ∃ dx, H2 dx = none ∧ dx ≠ e ∧ H4 = upd (upd (upd H2 e (newX e C none)) dx (.xd [(f, v)])) e (newX e C (some dx))) E0 :=
    ⟨e, v, rfl, gv, upd_same, fun dx n1 n2 => ⟨rfl, dx, by rw [upd_ne n2] at n1; exact n1, n2, rfl⟩⟩
  have bd := hb ⟨h', g, d, tk, os⟩ [.ref e, u] I3.kIn rfl
  rw [List.append_nil] at bd
  refine wpAny_call (codeAny_mono (F.run _ _ _ _ ⟨[.ref e, u], []⟩ [.ref e, u] [.ref e, v] _ E0 (hr.make C [u] []) (I3.env0.make C [u] []) bd (.cons rfl (.cons ru .nil)) sp) fun res s4 z => ?_)
  cases res with
  | error ev => exact z.elim
  | ok fl =>
    cases fl with
    | next => exact z.elim
    | brk => exact z.elim
    | cont => exact z.elim
    | ret uv =>
      obtain ⟨x, H4, I4, rx, rfl, dx, n1, n2, rfl⟩ := I3.after z
      refine ⟨rx, e, ?_⟩
      have at4 := I4.hok e _ upd_same
      obtain ⟨⟨t4, g4⟩, _, _⟩ := at4
      have I5 := I4.untrack (e := e) upd_same
      have eH : cut (upd (upd (upd H2 e (newX e C none)) dx (.xd [(f, v)])) e (newX e C (some dx))) e = upd H2 dx (.xd [(f, v)]) := by
        funext b
        by_cases zb : b = e
        · rw [zb, cut_at, upd_ne (Ne.symm n2), fe]
        · rw [cut_ne zb, upd_ne zb]
          by_cases zd : b = dx
          · rw [zd, upd_same, upd_same]
          · rw [upd_ne zd, upd_ne zd, upd_ne zb]
      rw [eH] at I5
      refine ⟨t4, some dx, rfl, I4.kIn _ _ lC, g4, xe_made I5 g4 rfl rfl ?_ (by rw [upd_ne (Ne.symm n2)]; exact fe) (qq dx n1)⟩
      exact Heap.get?_none_of_le (Nat.le_trans I2.sz le)
end
end L2
end
section
set_option maxHeartbeats 4000001
namespace L2
open PySem PySem.Spec PyProof.Rows
theorem bx_bind (self : Value) : bindSpecial (.builtin "BaseException.__getattribute__") self = pure (.builtin "BaseException.__getattribute__", [self]) := by kernel_rfl
theorem bx_kind : builtinKind "BaseException.__getattribute__" = some .slot := by decide +kernel
theorem bx_split : splitId "BaseException.__getattribute__" = some ("BaseException", "__getattribute__") := by decide +kernel
theorem bx_plain : plainId "BaseException.__getattribute__" = true := by decide +kernel
section
variable {prog : Program} {w : World} {A : Around} {E : Value → Shared → Prop} {K : PySem.W.Frag} {s : Shared} {x C : Addr} {ox : Obj} {od : Option Obj} {name : Str} {tk : Tok}
theorem xg_run {Q : Value → Shared → Prop} (X : K.In s.heap) (I : PySem.W.InstAt s.heap x ox C od) (mb : PySem.W.mroIn K C (.type "BaseException") = some true) (r : Builtin.ObjectAttr.Found) (hf : PySem.W.findObj K C od name = some r)
    (h : match r with | .value v => Q v s | .bind g a => wpAny (model prog w) A.in1 (Builtin.ObjectAttr.bindTo g a (.ref x) (.ref C)) (fun fin s' => match fin with | .done (.ret v) => Q v s' | _ => False) E s | .missing => False) :
    wpAny (model prog w) A (boundAndCalled (.builtin "BaseException.__getattribute__") (.ref x) (.str name tk)) Q E s := by
  unfold boundAndCalled
  rw [bx_bind]
  refine wpAny_bind (wpAny_pure (wpAny_call ?_))
  have isB : PySem.W.Looks (model prog w) s.heap (isInstance (.ref x) (.type "BaseException")) true := I.type.andThen (PySem.W.looks_mroIn X mb)
  refine codeAny_call_builtin bx_plain PySem.F.entry_bexc_ga ?_
  have ck := @PySem.W.check_slot (model prog w) A.in1 E s "BaseException.__getattribute__" "BaseException" "__getattribute__" (.ref x) [.str name tk] []
  refine ck bx_kind bx_split isB (PySem.F.args_bexc_ga _ _) ?_
  delta Builtin.«object.__getattribute__»; skip
  have sa : slotArgs "__getattribute__" 1 ⟨[.ref x, .str name tk], []⟩ = pure (.ref x, [.str name tk]) := rfl
  show wpAny _ _ (slotArgs "__getattribute__" 1 ⟨[.ref x, .str name tk], []⟩ >>= _) _ _ _
  rw [sa]
  refine wpAny_bind (wpAny_pure (wpAny_bind (wpAny_pure ?_))); refine wpAny_bind (I.type _ _ _ _ (fun _ _ z => z) ?_)
  refine wpAny_bind (PySem.W.looks_find X I hf _ _ _ _ (fun _ _ z => z) ?_)
  cases r with
  | value v => exact wpAny_pure h
  | bind g a =>
    refine wpAny_mono h (fun fin s' z => ?_) fun _ _ z => z
    cases fin with
    | done f =>
      cases f with
      | ret v => exact z
      | next => exact z.elim
      | brk => exact z.elim
      | cont => exact z.elim
    | again c => exact z.elim
  | missing => exact h.elim
theorem xg_get {fill expr : Bool} {r : Builtin.ObjectAttr.Found} {Q : Value → Shared → Prop} (X : K.In s.heap) (I : PySem.W.InstAt s.heap x ox C od) (ga : PySem.W.findIn K (.ref C) "__getattribute__" = some (some (.builtin "BaseException.__getattribute__"))) (gh : PySem.W.findIn K (.ref C) "__getattr__" = some none) (mb : PySem.W.mroIn K C (.type "BaseException") = some true)
    (hf : PySem.W.findObj K C od name = some r)
    (h : match r with | .value v => wpAny (model prog w) A (handedOut v) Q E s | .bind g a => wpAny (model prog w) A.in1 (Builtin.ObjectAttr.bindTo g a (.ref x) (.ref C)) (fun fin s' => match fin with | .done (.ret v) => wpAny (model prog w) A (handedOut v) Q E s' | _ => False) (fun _ _ => False) s | .missing => False) :
    wpAny (model prog w) A (getAttrBy (.ref x) (.str name tk) fill expr) Q E s := by
  unfold getAttrBy
  refine wpAny_holding (wpAny_bind (I.type _ _ _ _ (fun _ _ z => z) (wpAny_bind (PySem.W.looks_findIn X ga _ _ _ _ (fun _ _ z => z) ?_))))
  show wpAny _ _ (if (true && Value.builtin "BaseException.__getattribute__" == Value.builtin "object.__getattribute__") = true then _ else _) _ _ _
  rw [if_neg (by decide)]
  unfold getAttrByItsOwn hookBefore
  show wpAny _ _ (typeLookup (.ref C) "__getattr__" >>= _) _ _ _
  refine wpAny_bind (PySem.W.looks_findIn X gh _ _ _ _ (fun _ _ z => z) ?_)
  refine wpAny_bind (wpAny_attempt (wpAny_holding ?_)); unfold callGetattribute
  show wpAny _ _ (if (expr && false) = true then _ else _) _ _ _
  rw [Bool.and_false, if_neg (by decide)]
  refine xg_run X I mb r hf ?_
  cases r with
  | value v => exact h
  | bind g a => exact wpAny_mono h (fun _ _ z => z) fun _ _ z => z.elim
  | missing => exact h
theorem xg_class {od : Obj} {Q : Option Value → Shared → Prop} (X : K.In s.heap) (I : PySem.W.InstAt s.heap x ox C (some od)) (ga : PySem.W.findIn K (.ref C) "__getattribute__" = some (some (.builtin "BaseException.__getattribute__"))) (gh : PySem.W.findIn K (.ref C) "__getattr__" = some none) (mb : PySem.W.mroIn K C (.type "BaseException") = some true) (mo : PySem.W.mroIn K C (.type "object") = some true)
    (hf : PySem.W.findObj K C (some od) "__class__" = some (.bind (.builtin "getset_descriptor.__get__") (.builtin "object.__class__"))) (h : Q (some (.ref C)) { s with toks := s.toks + 1 }) : wpAny (model prog w) A (getAttr? (.ref x) "__class__") Q E s := by
  unfold getAttr? getAttrBy?
  refine wpAny_bind (wpAny_mkText (wpAny_bind (wpAny_attempt ?_)))
  refine xg_get (s := { s with toks := s.toks + 1 }) X I ga gh mb hf ?_
  unfold Builtin.ObjectAttr.bindTo
  refine wpAny_bind (wpAny_holding (wpAny_call (PySem.W.class_get (s := { s with toks := s.toks + 1 }) X I mo ?_)))
  exact wpAny_pure (wpAny_pure (wpAny_pure h))
end
end L2
end
section
set_option maxHeartbeats 4000001
namespace L2
open PySem PySem.Spec PyProof.Rows
structure XIs (K : PySem.W.Frag) (C : Addr) : Prop where
  ga : PySem.W.findIn K (.ref C) "__getattribute__" = some (some (.builtin "BaseException.__getattribute__"))
  gh : PySem.W.findIn K (.ref C) "__getattr__" = some none
  mb : PySem.W.mroIn K C (.type "BaseException") = some true
  mo : PySem.W.mroIn K C (.type "object") = some true
  ca : PySem.W.findIn K (.ref C) "__class__" = some (some (.builtin "object.__class__"))
  gg : PySem.W.specialIn K (.builtin "object.__class__") "__get__" = some (some (.builtin "getset_descriptor.__get__"))
  gt : PySem.W.takesIn K (.builtin "object.__class__") = some true
  hd : PySem.W.hasDictIn K C = true
theorem cls_at {K : PySem.W.Frag} {C : Addr} {cd : ClassData} (e : PySem.W.clsIn K C = some cd) : ∃ a b c, K.lookup C = some ⟨a, b, .cls cd, c⟩ := by
  unfold PySem.W.clsIn at e
  split at e
  · rename_i a b cd' c hl
    obtain rfl := Option.some.inj e
    exact ⟨a, b, c, hl⟩
  · cases e
theorem kitx_exc {K : PySem.W.Frag} {e C : Addr} (Z : XIs K C) : PySem.W.KitX K (.ref e) (.ref C) (fun h => ∃ ox od, PySem.W.InstAt h e ox C (some od)) where
  ty := fun _ _ _ ⟨_, _, I⟩ => I.type
  it := fun M h X _ => by
    obtain ⟨cd, hc, _⟩ := PySem.W.any_some Z.hd
    obtain ⟨a, b, c, hl⟩ := cls_at hc
    exact (PySem.W.Looks.ld (X _ _ hl)).andThen .now
  ne := fun h tp dd its n sl X ht => by
    obtain ⟨cd, hc, _⟩ := PySem.W.any_some Z.hd
    obtain ⟨a, b, c, hl⟩ := cls_at hc
    refine beq_eq_false_iff_ne.mpr fun z => ?_
    obtain rfl := Value.ref.inj z
    rw [X _ _ hl] at ht
    cases ht
  ca := fun X ⟨ox, od, I⟩ q => xg_class X I Z.ga Z.gh Z.mb Z.mo (PySem.W.findObj_data (by
    obtain ⟨cd, hc, _⟩ := PySem.W.any_some Z.hd
    rw [hc]; rfl) Z.ca Z.gg Z.gt) q
section
variable {X : Cx} {pins : List (Addr × Obj)} {σ : St} {H : Hp} {s : Shared}
theorem exc_inst {e C dx : Addr} {fs : List (Str × V)} (I : Inv X pins σ H s) (he : H e = some (excO e C (some dx))) (hx : H dx = some (.xd fs)) : ∃ ox od, PySem.W.InstAt s.heap e ox C (some od) ∧ s.heap.get? dx = some od := by
  obtain ⟨⟨o, g, c, d, vs, dt⟩, _, _⟩ := I.hok e _ he
  obtain ⟨mA, ⟨od, es, ep, g2, _⟩, _⟩ := I.hok dx _ hx
  refine ⟨o, od, ⟨g, c, by unfold PySem.W.notCls; rw [dt], by rw [d]; exact g2⟩, g2⟩
def rIsiX (K : PySem.W.Frag) : List V → Hp → VK → Prop := fun vs H Q => ∃ e C dx fs c k, vs = [.ref e, c] ∧ XIs K C ∧ H e = some (excO e C (some dx)) ∧ H dx = some (.xd fs) ∧
  ((∃ T, c = .ty T ∧ PySem.W.kitOne K (.ref C) (.type T) = some k) ∨ (∃ D, c = .ref D ∧ PySem.W.kitOne K (.ref C) (.ref D) = some k) ∨ ∃ (tp : Addr) (Ds : List Addr), c = .ref tp ∧ H tp = some (.tup (Ds.map V.ref)) ∧ PySem.W.kitAny K (.ref C) (Ds.map Value.ref) = some k) ∧ Q (.bl k) H
theorem vals_refs : ∀ {Ds : List Addr} {us : List Value}, Vals (Ds.map V.ref) us → us = Ds.map Value.ref
  | [], _, r => by cases r; rfl
  | D :: Ds, _, r => by
    cases r with
    | cons p r => rw [show _ = Value.ref D from p, vals_refs r]; rfl
theorem call_isiX : CallR X (.builtin "isinstance") (rIsiX X.K) := by
  intro pins s σ H vs us Q I rv h
  obtain ⟨e, C, dx, fs, c, k, rfl, Z, he, hx, hc, q⟩ := h
  obtain ⟨u, v, rfl, ru, rc⟩ := rv.two
  obtain rfl : u = Value.ref e := ru
  obtain ⟨ox, od, J, _⟩ := exc_inst I he hx
  rcases hc with ⟨T, rfl, hk⟩ | ⟨D, rfl, hk⟩ | ⟨tp, Ds, rfl, ht, hk⟩
  · obtain rfl : v = Value.type T := rc
    exact PySem.W.kia_one (kitx_exc Z) I.kIn ⟨ox, od, J⟩ hk (fun z => nomatch z) fun tk => ⟨.bl k, H, I.tok tk, rfl, q⟩
  · obtain rfl : v = Value.ref D := rc
    exact PySem.W.kia_one (kitx_exc Z) I.kIn ⟨ox, od, J⟩ hk (fun z => nomatch z) fun tk => ⟨.bl k, H, I.tok tk, rfl, q⟩
  · obtain rfl : v = Value.ref tp := rc
    obtain ⟨_, its, r, ot, g, oc, n, od', _⟩ := I.hok tp _ ht
    obtain rfl := vals_refs r
    obtain ⟨c1, d1, dt1, sl1⟩ := ot
    obtain rfl : c1 = .type "tuple" := oc
    obtain rfl : dt1 = .seq (Ds.map Value.ref).toArray n := od'
    exact PySem.W.kia_tup (kitx_exc Z) I.kIn ⟨ox, od, J⟩ g hk (fun z => nomatch z) fun tk => ⟨.bl k, H, I.tok tk, rfl, q⟩
def tXFld (K : PySem.W.Frag) (ta : TE) (f : Str) : TE := fun σ H Q => ta σ H fun x H1 => ∃ e C dx fs v, x = .ref e ∧ XIs K C ∧ H1 e = some (excO e C (some dx)) ∧ H1 dx = some (.xd fs) ∧ PySem.W.findIn K (.ref C) f = some none ∧ fs.lookup f = some v ∧ Q v H1
theorem pe_xfld {o : Expr} {f : Str} {pos : Pos} {ta : TE} (he : PE X o ta) (hb : attributeBase o f X.env (eval o X.env) = eval o X.env := by rfl) : PE X (.Attribute o f pos) (tXFld X.K ta f) := by
  intro pins s σ H Q I h
  refine attr_of hb (thn (he pins s σ H _ I h) fun u s1 ⟨x, H1, I1, rx, e, C, dx, fs, v, ex, Z, ee, ed, hf, hl, q⟩ => ?_)
  subst ex
  obtain rfl : u = Value.ref e := rx
  obtain ⟨ox, od, J, hod⟩ := exc_inst I1 ee ed
  obtain ⟨mA, ns, r⟩ := I1.hok dx _ ed
  obtain ⟨od', hod', look⟩ := lookIn_ns ns
  obtain rfl : od = od' := Option.some.inj (hod.symm.trans hod')
  obtain ⟨u, hu, ru⟩ := RelO.some_of (v := v) (o := mA f) (by rw [← hl]; exact r f)
  refine wpAny_bind (wpAny_mkText (xg_get (s := { s1 with toks := s1.toks + 1 }) (r := .value u) I1.kIn J Z.ga Z.gh Z.mb (PySem.W.findObj_own Z.hd hf rfl (by rw [look f, hu])) ?_))
  exact PySem.W.handed_on (handed_of ru) ⟨v, H1, I1.tok _, ru, q⟩
end
end L2
end
section
set_option maxHeartbeats 4000001
namespace K76
open PySem L2 Own Bn
abbrev sXInit : Stmt := inClass (top 4) 0
def goodX (v : V) : Prop := ∃ n : Nat, v = .int (n : Nat) ∧ n ≤ 1000
theorem fits_row {n : Nat} (h : n ≤ 1000) : ((n : Nat) : Int).natAbs.log2 < 1920 := by
  by_cases z : ((n : Nat) : Int).natAbs = 0
  · rw [z]; decide
  · exact (Nat.log2_lt z).mpr (Nat.lt_of_le_of_lt (show ((n : Nat) : Int).natAbs ≤ 1000 by lia) (by decide))
section
variable {P : Program} {w : World} {K : PySem.W.Frag} {mg : Str → Option Value} {base : Heap}
theorem scXi : FnScope ["self", "row"] ["self", "row"] (defScope sXInit) := ⟨rfl, rfl, rfl, by decide +kernel, rfl, by decide +kernel, by decide +kernel⟩
theorem ok_xinit {f C L : Addr} {fd : FuncData} (F : Fun K "__init__" "NoText.__init__" sXInit f fd) (B : XBase K L) (O : XOwn K C L f) (mL : mg "LaneError" = some (.ref L)) (na : PySem.W.findIn K (.ref C) "row" = some none) : FnOk P w K mg base CX0 1 f fd ["self", "row"] (spXI C "row" goodX) := by
  refine F.ok scXi (fun vs H Q E h => ?_) (fun cdv A outer s H vs Q E hr h => ?_)
  · obtain ⟨e, v, rfl, _⟩ := h
    rfl
  obtain ⟨e, v, rfl, ⟨n, rfl, hn⟩, he, k⟩ := h
  refine ⟨_, (@pss_cons _ _ _ _ _ (@ps_expr _ _ _ _ (pe_xinit (C := C) (fI := f) B O rfl mL (@pa_cons _ _ _ _ _ (@pv _ 0 _ _ (by rfl) (by first | exact Or.inl rfl | exact Or.inr (Or.inl rfl) | exact Or.inr (Or.inr rfl)) (by decide) (by decide)) (@pa_cons _ _ _ _ _ (@pe_fstr _ _ _ _ _ _ (pfs_str (pfs_int (@pv _ 1 _ _ (by rfl) (by first | exact Or.inl rfl | exact Or.inr (Or.inl rfl) | exact Or.inr (Or.inr rfl)) (by decide) (by decide)) pfs_nil))) pa_nil (by rfl)) (by rfl))) (by rfl)) (@pss_one _ _ _ (ps_xset (f := "row") O na (@pv _ 0 _ _ (by rfl) (by first | exact Or.inl rfl | exact Or.inr (Or.inl rfl) | exact Or.inr (Or.inr rfl)) (by decide) (by decide)) (@pv _ 1 _ _ (by rfl) (by first | exact Or.inl rfl | exact Or.inr (Or.inl rfl) | exact Or.inr (Or.inr rfl)) (by decide) (by decide))))), ?_⟩
  have e0 : Str.empty.length = 0 := rfl
  have ls := txt_small (n := n) hn
  refine ⟨_, rfl, by decide, _, rfl, (n : Nat), rfl, fits_row hn, ?_, ?_⟩
  · rw [Str.length_append, e0, (by decide : (Str.ofString "not written as told in row ").length = 27), sizeLine_eq]; lia
  refine ⟨e, _, none, rfl, he, ?_⟩
  refine ⟨_, rfl, _, rfl, e, rfl, he, fun dx n1 n2 => k dx n1 n2⟩
end
end K76
end
section
set_option maxHeartbeats 4000001
namespace K76
open PySem L2 Own Bn
abbrev sReadC : Stmt := top 10
def spReadG : Sp := fun vs H Q _ => ∃ xs : List Wd, vs = [.str (txtW xs)] ∧ xs ≠ [] ∧ xs.length ≤ 1000 ∧ (∀ x ∈ xs, OkW x) ∧ someBad xs = false ∧ ∀ p H', Same H H' → H' p = some (.tup (xs.map wdV)) → Q (.ref p) H'
def spReadX (K : PySem.W.Frag) (C : Addr) : Sp := fun vs H _ E => (∃ x t, vs = [x] ∧ TyOf K H x t ∧ PySem.W.kitOne K t (.type "str") = some false ∧ ∀ dx, H dx = none → E (.ref C) (some dx) (L2.upd H dx (.xd [("row", .int 0)]))) ∨
  ∃ xs : List Wd, vs = [.str (txtW xs)] ∧ xs ≠ [] ∧ xs.length ≤ 1000 ∧ (∀ x ∈ xs, OkW x) ∧ someBad xs = true ∧ ∀ H' dx, Same H H' → H' dx = none → E (.ref C) (some dx) (L2.upd H' dx (.xd [("row", .int 0)]))
theorem in_bad (xs : List Wd) : inV .non (xs.map wdV) = someBad xs ∧ (xs.map wdV).all flatV = true := by
  induction xs with
  | nil => exact ⟨rfl, rfl⟩
  | cons x r ih =>
    refine ⟨?_, ?_⟩
    · have h := ih.1
      unfold inV someBad at h ⊢
      rw [List.map_cons, List.any_cons, List.any_cons, h]
      cases x <;> rfl
    · rw [List.map_cons, List.all_cons, ih.2]
      cases x <;> rfl
theorem split_W {xs : List Wd} (n : xs ≠ []) (ok : ∀ x ∈ xs, OkW x) : Txt.split (txtW xs) (Str.ofString ",") = xs.map wdT := by
  unfold txtW
  rw [s_comma]
  refine split_join (fun z => n (List.map_eq_nil_iff.mp z)) fun a ha => ?_
  obtain ⟨x, hx, rfl⟩ := List.mem_map.mp ha
  have := ok x hx
  cases x with
  | inl m => exact txt_free m
  | inr z => exact fun q => this.2.2.2 44 q rfl
theorem len_W {xs : List Wd} (l : xs.length ≤ 1000) (ok : ∀ x ∈ xs, OkW x) : (txtW xs).length + 2 ≤ sizeLine := by
  have a := StrLaws.join_length_le (Str.ofString ",") (xs.map wdT)
  have b := StrLaws.sumLen_le (B := 1000) (xs.map wdT) (fun y hy => by obtain ⟨x, hx, rfl⟩ := List.mem_map.mp hy; exact wd_len (ok x hx))
  rw [← StrLaws.glued_eq_join] at a
  have c : (txtW xs).length ≤ ((xs.map wdT).map (·.length)).sum + (xs.map wdT).length * 1 := a
  rw [List.length_map] at b c
  have d : 1000 * xs.length ≤ 1000000 := by lia
  rw [sizeLine_eq]
  first | lia | (rw [Nat.mul_comm] at b; lia)
section
variable {P : Program} {w : World} {K : PySem.W.Frag} {mg : Str → Option Value} {base : Heap}
theorem scRc : FnScope ["text", "counts"] ["text"] (defScope sReadC) := ⟨rfl, rfl, rfl, by decide +kernel, rfl, by decide +kernel, by decide +kernel⟩
theorem ok_readg {f fN : Addr} {fd dN : FuncData} (F : Fun K "read_counts" "read_counts" sReadC f fd) (G : Mgs mg) (UN : Use P w K mg base "numbers_in" ["words"] 2 spNumsW fN dN) : FnOk P w K mg base CX0 3 f fd ["text"] spReadG := by
  refine F.ok scRc (fun vs H Q E h => ?_) (fun cdv A outer s H vs Q E hr h => ?_)
  · obtain ⟨xs, rfl, _⟩ := h
    rfl
  obtain ⟨xs, rfl, n0, l9, ok, sb, k⟩ := h
  refine ⟨_, (@pss_cons _ _ _ _ _ (@ps_if _ _ _ _ _ _ _ _ (@pt_not _ _ _ _ (@pt_val _ _ _ (@pe_callB _ _ _ _ _ _ _ _ _ call_isi (by rfl) G.isi (by rfl) (@pa_cons _ _ _ _ _ (@pv _ 0 _ _ (by rfl) (by first | exact Or.inl rfl | exact Or.inr (Or.inl rfl) | exact Or.inr (Or.inr rfl)) (by decide) (by decide)) (@pa_cons _ _ _ _ _ (@pe_bltn _ _ (.ty "str") (.type "str") _ (by rfl) G.str (by rfl) rfl (by decide) (by decide)) pa_nil (by rfl)) (by rfl)) (by decide) (by decide) (by rfl) (by rfl)) (by intro _; rfl))) (@pss_one _ _ _ ps_dead) pss_nil) (@pss_cons _ _ _ _ _ (@ps_set _ _ 1 _ _ _ _ scRc.nd rfl (Or.inl rfl) (@pe_call _ _ _ _ _ _ _ _ _ _ _ _ _ _ _ _ UN.ok hr (by rfl) UN.m UN.kp UN.b .nil pass0 (@pa_cons _ _ _ _ _ (@pe_bm _ _ _ _ _ _ _ _ _ _ _ _ PySem.F.plainAttrs_str PySem.F.slot_str_split PySem.F.type_str_split mt_split (@pv _ 0 _ _ (by rfl) (by first | exact Or.inl rfl | exact Or.inr (Or.inl rfl) | exact Or.inr (Or.inr rfl)) (by decide) (by decide)) (@pa_cons _ _ _ _ _ pe_str pa_nil (by rfl)) (by rfl) (by rfl) (by rfl) (by rfl) (by rfl)) pa_nil (by rfl)) (by decide) (by rfl) (by rfl)) (by rfl) (by first | exact .inl rfl | exact .inr rfl | assumption)) (@pss_cons _ _ _ _ _ (@ps_if _ _ _ _ _ _ _ _ (@pt_cmpR _ _ _ _ _ _ _ _ op_in_seq pe_non (@pv _ 1 _ _ (by rfl) (by first | exact Or.inl rfl | exact Or.inr (Or.inl rfl) | exact Or.inr (Or.inr rfl)) (by decide) (by decide)) (by rfl)) (@pss_one _ _ _ ps_dead) pss_nil) (@pss_one _ _ _ (@ps_ret _ _ _ _ (@pv _ 1 _ _ (by rfl) (by first | exact Or.inl rfl | exact Or.inr (Or.inl rfl) | exact Or.inr (Or.inr rfl)) (by decide) (by decide))))))), ?_⟩
  refine ⟨_, rfl, _, "str", _, true, rfl, .str _, rfl, _, rfl, iteF ?_⟩
  refine ⟨_, rfl, rfl, _, _, rfl, rfl, rfl, len_W l9 ok, fun l hl => ?_⟩
  rw [split_W n0 ok, List.map_map]
  have s1 := same_new hl (.lst (xs.map (V.str ∘ wdT)))
  refine ⟨l, xs, rfl, upd_same, l9, ok, fun p H2 s2 hp => ?_⟩
  obtain ⟨n1, n2⟩ := in_bad xs
  refine ⟨_, rfl, p, _, rfl, .inr (SqT.of hp), rfl, n2, _, rfl, ?_⟩
  rw [n1, sb]
  exact iteF ⟨_, rfl, k p H2 (s1.trans s2) hp⟩
theorem ok_readx {f fN C L fI : Addr} {fd dN dI : FuncData} (F : Fun K "read_counts" "read_counts" sReadC f fd) (G : Mgs mg) (UN : Use P w K mg base "numbers_in" ["words"] 2 spNumsW fN dN) (O : XOwn K C L fI) (UI : FnOk P w K mg base CX0 1 fI dI ["self", "row"] (spXI C "row" goodX)) (bI : Binds K dI ["self", "row"] []) (mT : mg "NoText" = some (.ref C)) : FnOk P w K mg base (CX1 P w) 3 f fd ["text"] (spReadX K C) := by
  refine F.ok1 scRc (fun vs H Q E h => ?_) (fun cdv A outer s H vs Q E hr h => ?_)
  · rcases h with ⟨x, t, rfl, _⟩ | ⟨xs, rfl, _⟩ <;> rfl
  refine ⟨_, (@pss_cons _ _ _ _ _ (@ps_if _ _ _ _ _ _ _ _ (@pt_not _ _ _ _ (@pt_val _ _ _ (@pe_callB _ _ _ _ _ _ _ _ _ call_isi (by rfl) G.isi (by rfl) (@pa_cons _ _ _ _ _ (@pv _ 0 _ _ (by rfl) (by first | exact Or.inl rfl | exact Or.inr (Or.inl rfl) | exact Or.inr (Or.inr rfl)) (by decide) (by decide)) (@pa_cons _ _ _ _ _ (@pe_bltn _ _ (.ty "str") (.type "str") _ (by rfl) G.str (by rfl) rfl (by decide) (by decide)) pa_nil (by rfl)) (by rfl)) (by decide) (by decide) (by rfl) (by rfl)) (by intro _; rfl))) (@pss_one _ _ _ (ps_raiseX O UI bI hr rfl mT (@pa_cons _ _ _ _ _ pe_int pa_nil (by rfl)))) pss_nil) (@pss_cons _ _ _ _ _ (@ps_set _ _ 1 _ _ _ _ scRc.nd rfl (Or.inl rfl) (@pe_call _ _ _ _ _ _ _ _ _ _ _ _ _ _ _ _ UN.ok hr (by rfl) UN.m UN.kp UN.b .nil pass0 (@pa_cons _ _ _ _ _ (@pe_bm _ _ _ _ _ _ _ _ _ _ _ _ PySem.F.plainAttrs_str PySem.F.slot_str_split PySem.F.type_str_split mt_split (@pv _ 0 _ _ (by rfl) (by first | exact Or.inl rfl | exact Or.inr (Or.inl rfl) | exact Or.inr (Or.inr rfl)) (by decide) (by decide)) (@pa_cons _ _ _ _ _ pe_str pa_nil (by rfl)) (by rfl) (by rfl) (by rfl) (by rfl) (by rfl)) pa_nil (by rfl)) (by decide) (by rfl) (by rfl)) (by rfl) (by first | exact .inl rfl | exact .inr rfl | assumption)) (@pss_cons _ _ _ _ _ (@ps_if _ _ _ _ _ _ _ _ (@pt_cmpR _ _ _ _ _ _ _ _ op_in_seq pe_non (@pv _ 1 _ _ (by rfl) (by first | exact Or.inl rfl | exact Or.inr (Or.inl rfl) | exact Or.inr (Or.inr rfl)) (by decide) (by decide)) (by rfl)) (@pss_one _ _ _ (ps_raiseX O UI bI hr rfl mT (@pa_cons _ _ _ _ _ pe_int pa_nil (by rfl)))) pss_nil) (@pss_one _ _ _ (@ps_ret _ _ _ _ (@pv _ 1 _ _ (by rfl) (by first | exact Or.inl rfl | exact Or.inr (Or.inl rfl) | exact Or.inr (Or.inr rfl)) (by decide) (by decide))))))), ?_⟩
  rcases h with ⟨x, t, rfl, ty, kt, k⟩ | ⟨xs, rfl, n0, l9, ok, sb, k⟩
  · exact ⟨_, rfl, _, "str", _, false, rfl, ty, kt, _, rfl, iteT ⟨_, rfl, ⟨0, rfl, by decide⟩, k⟩⟩
  refine ⟨_, rfl, _, "str", _, true, rfl, .str _, rfl, _, rfl, iteF ?_⟩
  refine ⟨_, rfl, rfl, _, _, rfl, rfl, rfl, len_W l9 ok, fun l hl => ?_⟩
  rw [split_W n0 ok, List.map_map]
  have s1 := same_new hl (.lst (xs.map (V.str ∘ wdT)))
  refine ⟨l, xs, rfl, upd_same, l9, ok, fun p H2 s2 hp => ?_⟩
  obtain ⟨n1, n2⟩ := in_bad xs
  refine ⟨_, rfl, p, _, rfl, .inr (SqT.of hp), rfl, n2, _, rfl, ?_⟩
  rw [n1, sb]
  exact iteT ⟨_, rfl, ⟨0, rfl, by decide⟩, fun dx hd => k H2 dx (s1.trans s2) hd⟩
end
end K76
end
section
set_option maxHeartbeats 4000001
namespace K76
open PySem L2 Own Bn
abbrev sAlike : Stmt := top 17
def numT : V → Bool
  | .int _ => true
  | .str _ => true
  | _ => false
def Eq3 (H : Hp) : Nat → V → V → Prop
  | 0, x, y => x = y ∧ numT x = true
  | n + 1, x, y => (x = y ∧ numT x = true) ∨ ∃ a b xs ys, x = .ref a ∧ y = .ref b ∧ H a = some (.tup xs) ∧ H b = some (.tup ys) ∧ xs.length = ys.length ∧ xs.length ≤ 1000 ∧ ∀ (i : Nat) (u v : V), xs[i]? = some u → ys[i]? = some v → Eq3 H n u v
theorem Eq3.same {H H' : Hp} (s : Same H H') : ∀ {n : Nat} {x y : V}, Eq3 H n x y → Eq3 H' n x y
  | 0, _, _, h => h
  | n + 1, _, _, h => by
    rcases h with h | ⟨a, b, xs, ys, e1, e2, h1, h2, h3, h4, h5⟩
    · exact .inl h
    · exact .inr ⟨a, b, xs, ys, e1, e2, s _ _ h1, s _ _ h2, h3, h4, fun i u v p q => Eq3.same s (h5 i u v p q)⟩
def spAlike (n : Nat) : Sp := fun vs H Q _ => ∃ x y, vs = [x, y] ∧ Eq3 H n x y ∧ ∀ H', Same H H' → Q (.bl true) H'
section
variable {P : Program} {w : World} {K : PySem.W.Frag} {mg : Str → Option Value} {base : Heap}
theorem scAk : FnScope ["_law_found", "_law_due"] ["_law_found", "_law_due"] (defScope sAlike) := ⟨rfl, rfl, rfl, by decide +kernel, rfl, by decide +kernel, by decide +kernel⟩
theorem ok_alike1 {f : Addr} {fd : FuncData} (F : Fun K "_law_alike" "_law_alike" sAlike f fd) (G : Mgs mg) (bS : Binds K fd ["_law_found", "_law_due"] []) (mS : mg "_law_alike" = some (.ref f)) (n : Nat)
    (GS : FnOk P w K mg base CX0 n f fd ["_law_found", "_law_due"] (fun vs H Q E => ∃ m, n = m + 1 ∧ spAlike m vs H Q E)) : FnOk P w K mg base CX0 (n + 1) f fd ["_law_found", "_law_due"] (spAlike n) := by
    have UT : Use P w K mg base "_law_alike" ["_law_found", "_law_due"] n (fun vs H Q E => ∃ m, n = m + 1 ∧ spAlike m vs H Q E) f fd := ⟨GS, bS, F.kp, mS⟩
    refine F.ok scAk (fun vs H Q E h => ?_) (fun cdv A outer s H vs Q E hr h => ?_)
    · obtain ⟨x, y, rfl, _⟩ := h
      rfl
    obtain ⟨x, y, rfl, he, k⟩ := h
    refine ⟨_, (@pss_cons _ _ _ _ _ (@ps_if _ _ _ _ _ _ _ _ (@pt_val _ _ _ (@pe_callB _ _ _ _ _ _ _ _ _ call_isi (by rfl) G.isi (by rfl) (@pa_cons _ _ _ _ _ (@pv _ 1 _ _ (by rfl) (by first | exact Or.inl rfl | exact Or.inr (Or.inl rfl) | exact Or.inr (Or.inr rfl)) (by decide) (by decide)) (@pa_cons _ _ _ _ _ (@pe_bltn _ _ (.ty "tuple") (.type "tuple") _ (by rfl) G.tuple (by rfl) rfl (by decide) (by decide)) pa_nil (by rfl)) (by rfl)) (by decide) (by decide) (by rfl) (by rfl)) (by intro _; rfl)) (@pss_cons _ _ _ _ _ (@ps_if _ _ _ _ _ _ _ _ (@pw_or _ _ _ _ _ _ _ (@pt_not _ _ _ _ (@pt_val _ _ _ (@pe_callB _ _ _ _ _ _ _ _ _ call_isi (by rfl) G.isi (by rfl) (@pa_cons _ _ _ _ _ (@pv _ 0 _ _ (by rfl) (by first | exact Or.inl rfl | exact Or.inr (Or.inl rfl) | exact Or.inr (Or.inr rfl)) (by decide) (by decide)) (@pa_cons _ _ _ _ _ (@pe_bltn _ _ (.ty "tuple") (.type "tuple") _ (by rfl) G.tuple (by rfl) rfl (by decide) (by decide)) pa_nil (by rfl)) (by rfl)) (by decide) (by decide) (by rfl) (by rfl)) (by intro _; rfl))) (@pw_or1 _ _ _ _ (@pt_cmpR _ _ _ _ _ _ _ _ op_ne (@pe_callB _ _ _ _ _ _ _ _ _ call_len_seq (by rfl) G.len PySem.boot_len (@pa_cons _ _ _ _ _ (@pv _ 0 _ _ (by rfl) (by first | exact Or.inl rfl | exact Or.inr (Or.inl rfl) | exact Or.inr (Or.inr rfl)) (by decide) (by decide)) pa_nil (by rfl)) (by decide) (by decide) (by rfl) (by rfl)) (@pe_callB _ _ _ _ _ _ _ _ _ call_len_seq (by rfl) G.len PySem.boot_len (@pa_cons _ _ _ _ _ (@pv _ 1 _ _ (by rfl) (by first | exact Or.inl rfl | exact Or.inr (Or.inl rfl) | exact Or.inr (Or.inr rfl)) (by decide) (by decide)) pa_nil (by rfl)) (by decide) (by decide) (by rfl) (by rfl)) (nomark _)))).pt (@pss_one _ _ _ (@ps_ret _ _ _ _ pe_bl)) pss_nil) (@pss_one _ _ _ (@ps_ret _ _ _ _ (@pe_callB _ _ _ _ _ _ _ _ _ (call_allB rfl true) (by rfl) G.all (by rfl) (@pa_cons _ _ _ _ _ (@pe_lc _ _ _ _ none _ _ _ (gTup K 2 (gCons (gName 0) (gCons (gName 1) gNil))) _ _ ["_law_one", "_law_other"] [none, none] rfl (@pi_zip _ _ _ _ _ _ _ _ _ false false rfl G.zip (@pa_cons _ _ _ _ _ (@pv _ 0 _ _ (by rfl) (by first | exact Or.inl rfl | exact Or.inr (Or.inl rfl) | exact Or.inr (Or.inr rfl)) (by decide) (by decide)) (@pa_cons _ _ _ _ _ (@pv _ 1 _ _ (by rfl) (by first | exact Or.inl rfl | exact Or.inr (Or.inl rfl) | exact Or.inr (Or.inr rfl)) (by decide) (by decide)) pa_nil (by rfl)) (by rfl)) (by rfl) (by rfl)) (CapOk.of (by kernel_rfl)) (fun _ _ _ _ _ => (@pg_tup _ _ _ _ _ _ rfl (@pgs_cons _ _ _ _ _ (@pg_name _ _ 0 _ (show (["_law_one", "_law_other"] : List Str).Nodup from by decide +kernel) rfl (Or.inl rfl) (Or.inr rfl)) (@pgs_cons _ _ _ _ _ (@pg_name _ _ 1 _ (show (["_law_one", "_law_other"] : List Str).Nodup from by decide +kernel) rfl (Or.inl rfl) (Or.inr rfl)) pgs_nil (by rfl)) (by rfl)) (by rfl) (by rfl))) (fun _ _ _ _ _ => pt_none) (fun _ _ _ _ _ => (@pe_call _ _ _ _ _ _ _ _ _ _ _ _ _ _ _ _ UT.ok hr (by rfl) UT.m UT.kp UT.b .nil pass0 (@pa_cons _ _ _ _ _ (@pv _ 0 _ _ (by rfl) (by first | exact Or.inl rfl | exact Or.inr (Or.inl rfl) | exact Or.inr (Or.inr rfl)) (by decide) (by decide)) (@pa_cons _ _ _ _ _ (@pv _ 1 _ _ (by rfl) (by first | exact Or.inl rfl | exact Or.inr (Or.inl rfl) | exact Or.inr (Or.inr rfl)) (by decide) (by decide)) pa_nil (by rfl)) (by rfl)) (by decide) (by rfl) (by rfl))) (by intro _; rfl)) pa_nil (by rfl)) (by decide) (by decide) (by rfl) (by rfl))))) pss_nil) (@pss_cons _ _ _ _ _ (@ps_if _ _ _ _ _ _ _ _ (@pt_val _ _ _ (@pe_callB _ _ _ _ _ _ _ _ _ call_isi (by rfl) G.isi (by rfl) (@pa_cons _ _ _ _ _ (@pv _ 1 _ _ (by rfl) (by first | exact Or.inl rfl | exact Or.inr (Or.inl rfl) | exact Or.inr (Or.inr rfl)) (by decide) (by decide)) (@pa_cons _ _ _ _ _ (@pe_bltn _ _ (.ty "str") (.type "str") _ (by rfl) G.str (by rfl) rfl (by decide) (by decide)) pa_nil (by rfl)) (by rfl)) (by decide) (by decide) (by rfl) (by rfl)) (by intro _; rfl)) (@pss_one _ _ _ (@ps_ret _ _ _ _ (@pe_and _ _ _ _ _ _ _ (@pe_callB _ _ _ _ _ _ _ _ _ call_isi (by rfl) G.isi (by rfl) (@pa_cons _ _ _ _ _ (@pv _ 0 _ _ (by rfl) (by first | exact Or.inl rfl | exact Or.inr (Or.inl rfl) | exact Or.inr (Or.inr rfl)) (by decide) (by decide)) (@pa_cons _ _ _ _ _ (@pe_bltn _ _ (.ty "str") (.type "str") _ (by rfl) G.str (by rfl) rfl (by decide) (by decide)) pa_nil (by rfl)) (by rfl)) (by decide) (by decide) (by rfl) (by rfl)) (@pe_one _ _ _ _ _ (@pe_cmpR _ _ _ _ _ _ _ _ op_eq (@pv _ 0 _ _ (by rfl) (by first | exact Or.inl rfl | exact Or.inr (Or.inl rfl) | exact Or.inr (Or.inr rfl)) (by decide) (by decide)) (@pv _ 1 _ _ (by rfl) (by first | exact Or.inl rfl | exact Or.inr (Or.inl rfl) | exact Or.inr (Or.inr rfl)) (by decide) (by decide)) (nomark _)))))) pss_nil) (@pss_one _ _ _ (@ps_ret _ _ _ _ (@pe_and _ _ _ _ _ _ _ (@pe_callB _ _ _ _ _ _ _ _ _ call_isi (by rfl) G.isi (by rfl) (@pa_cons _ _ _ _ _ (@pv _ 0 _ _ (by rfl) (by first | exact Or.inl rfl | exact Or.inr (Or.inl rfl) | exact Or.inr (Or.inr rfl)) (by decide) (by decide)) (@pa_cons _ _ _ _ _ (@pe_bltn _ _ (.ty "int") (.type "int") _ (by rfl) G.int (by rfl) rfl (by decide) (by decide)) pa_nil (by rfl)) (by rfl)) (by decide) (by decide) (by rfl) (by rfl)) (@pe_and _ _ _ _ _ _ _ (@pe_not _ _ _ _ (@pe_callB _ _ _ _ _ _ _ _ _ call_isi (by rfl) G.isi (by rfl) (@pa_cons _ _ _ _ _ (@pv _ 0 _ _ (by rfl) (by first | exact Or.inl rfl | exact Or.inr (Or.inl rfl) | exact Or.inr (Or.inr rfl)) (by decide) (by decide)) (@pa_cons _ _ _ _ _ (@pe_bltn _ _ (.ty "bool") (.type "bool") _ (by rfl) G.bool (by rfl) rfl (by decide) (by decide)) pa_nil (by rfl)) (by rfl)) (by decide) (by decide) (by rfl) (by rfl))) (@pe_one _ _ _ _ _ (@pe_cmpR _ _ _ _ _ _ _ _ op_eq (@pv _ 0 _ _ (by rfl) (by first | exact Or.inl rfl | exact Or.inr (Or.inl rfl) | exact Or.inr (Or.inr rfl)) (by decide) (by decide)) (@pv _ 1 _ _ (by rfl) (by first | exact Or.inl rfl | exact Or.inr (Or.inl rfl) | exact Or.inr (Or.inr rfl)) (by decide) (by decide)) (nomark _))))))))), ?_⟩
    have flat : (x = y ∧ numT x = true) ∨ ∃ m, n = m + 1 ∧ ∃ a b xs ys, x = .ref a ∧ y = .ref b ∧ H a = some (.tup xs) ∧ H b = some (.tup ys) ∧ xs.length = ys.length ∧ xs.length ≤ 1000 ∧ ∀ (i : Nat) (u v : V), xs[i]? = some u → ys[i]? = some v → Eq3 H m u v := by
      cases n with
      | zero => exact .inl he
      | succ m =>
        rcases he with he | he
        · exact .inl he
        · exact .inr ⟨m, rfl, he⟩
    rcases flat with ⟨rfl, fl⟩ | ⟨m, rfl, a, b, xs, ys, rfl, rfl, ha, hb, hl, h1000, hxy⟩
    · cases x with
      | int i =>
        refine ⟨_, rfl, _, "tuple", _, false, rfl, .int i, rfl, _, rfl, iteF ⟨_, rfl, _, "str", _, false, rfl, .int i, rfl, _, rfl, iteF ?_⟩⟩
        refine ⟨_, rfl, _, "int", _, true, rfl, .int i, rfl, _, rfl, iteT ⟨_, rfl, _, "bool", _, false, rfl, .int i, rfl, _, rfl, _, rfl, iteT ⟨_, rfl, _, rfl, rfl, ?_⟩⟩⟩
        rw [decide_eq_true rfl]; exact k H (Same.refl H)
      | str z =>
        refine ⟨_, rfl, _, "tuple", _, false, rfl, .str z, rfl, _, rfl, iteF ⟨_, rfl, _, "str", _, true, rfl, .str z, rfl, _, rfl, iteT ?_⟩⟩
        refine ⟨_, rfl, _, "str", _, true, rfl, .str z, rfl, _, rfl, iteT ⟨_, rfl, _, rfl, rfl, ?_⟩⟩
        rw [decide_eq_true rfl]; exact k H (Same.refl H)
      | non => cases fl
      | bl _ => cases fl
      | byt _ => cases fl
      | flt _ => cases fl
      | ref _ => cases fl
      | ty _ => cases fl
    · refine ⟨_, rfl, _, "tuple", _, true, rfl, .tup hb, rfl, _, rfl, iteT ?_⟩
      refine ⟨_, rfl, _, "tuple", _, true, rfl, .tup ha, rfl, _, rfl, iteF ?_⟩
      refine ⟨_, rfl, a, _, rfl, .inr (SqT.of ha), _, rfl, b, _, rfl, .inr (SqT.of hb), rfl, _, rfl, ?_⟩
      refine iteNS (by rw [hl]) ?_
      refine ⟨_, rfl, _, rfl, a, b, xs, ys, rfl, SqT.of ha, SqT.of hb, fun l hl0 => ?_⟩
      refine lc_zip (K := K) (b1 := false) (b2 := false) hl (fun i acc σ H' => acc = List.map V.bl (List.replicate i true) ∧ (∃ u v, σ = [u, v]) ∧ Same H H' ∧ H' l = some (.lst acc)) ⟨rfl, ⟨none, none, rfl⟩, same_new hl0 _, upd_same⟩
        (fun i acc σ H' p => ⟨p.2.2.2, SqT.of (p.2.2.1 _ _ ha), SqT.of (p.2.2.1 _ _ hb)⟩) ?_ ?_
      · rintro i acc σ H' u v T hu hv hT ⟨rfl, ⟨p, q, rfl⟩, hS, hL⟩
        have hi : i < xs.length := (List.getElem?_eq_some_iff.mp hu).1
        have sT : Same H (upd H' T (.tup [u, v])) := hS.trans (same_new hT _)
        refine ⟨T, _, rfl, SqT.of upd_same, rfl, _, _, rfl, _, _, rfl, rfl, ?_⟩
        refine ⟨_, rfl, _, rfl, m, rfl, u, v, rfl, (hxy i u v hu hv).same sT, fun H5 s5 => ⟨?_, ?_, nx hi ⟨?_, ⟨_, _, rfl⟩, fun b o e => ?_, upd_same⟩⟩⟩
        · exact s5 _ _ (by rw [upd_ne (ne_of_none hL hT)]; exact hL)
        · rw [List.length_map, List.length_replicate]; exact small1000 (by lia)
        · rw [List.replicate_succ', List.map_append]; rfl
        · rw [upd_ne (ne_of_none e hl0)]; exact s5 _ _ (sT b o e)
      · rintro acc σ H' ⟨rfl, _, hS, hL⟩
        refine ⟨l, List.replicate xs.length true, rfl, SqL.of hL, ?_⟩
        have e : (List.replicate xs.length true).all id = true := by
          rw [List.all_eq_true]; intro z hz; rw [List.eq_of_mem_replicate hz]; rfl
        rw [e]; exact k H' hS
theorem ok_alike {f : Addr} {fd : FuncData} (F : Fun K "_law_alike" "_law_alike" sAlike f fd) (G : Mgs mg) (bS : Binds K fd ["_law_found", "_law_due"] []) (mS : mg "_law_alike" = some (.ref f)) : ∀ n : Nat, FnOk P w K mg base CX0 (n + 1) f fd ["_law_found", "_law_due"] (spAlike n)
  | 0 => ok_alike1 F G bS mS 0 ⟨fun vs H Q E ⟨m, h, _⟩ => by lia, fun A outer s H args us vs Q E _ _ _ _ ⟨m, h, _⟩ => by lia⟩
  | m + 1 => ok_alike1 F G bS mS (m + 1) ((ok_alike F G bS mS m).imp fun vs H Q E ⟨m', h, q⟩ => by cases h; exact q)
end
theorem eq3_ints {H : Hp} {a b : Addr} {xs : List Int} (h1 : H a = some (.tup (xs.map V.int))) (h2 : H b = some (.tup (xs.map V.int))) (hl : xs.length ≤ 1000) : Eq3 H 1 (.ref a) (.ref b) :=
  .inr ⟨a, b, _, _, rfl, rfl, h1, h2, rfl, by rw [List.length_map]; exact hl, fun i u v hu hv => by
    obtain rfl := Option.some.inj (hu.symm.trans hv)
    rw [List.getElem?_map] at hu
    cases z : xs[i]? with
    | none => rw [z] at hu; cases hu
    | some n => rw [z] at hu; obtain rfl := Option.some.inj hu; exact ⟨rfl, rfl⟩⟩
end K76
end
section
set_option maxHeartbeats 4000001
namespace L2
open PySem PySem.Spec PyProof.Rows Own
end L2
namespace Bn
open PySem L2 Own
section
variable {n s p c u : Addr}
end
end Bn
end
section
set_option maxHeartbeats 4000001
namespace L2
open PySem
end L2
namespace Bn
open PySem L2 Own
end Bn
end
section
set_option maxHeartbeats 4000001
namespace Bn
open PySem L2 Own
end Bn
end
section
set_option maxHeartbeats 4000001
namespace Bn
open PySem L2 Own
end Bn
end
section
set_option maxHeartbeats 4000001
namespace Bn
open PySem L2 Own
end Bn
end
section
set_option maxHeartbeats 4000001
namespace Bn
open PySem L2 Own
def dN (q : Nat → Bool) : Nat → Nat
  | 0 => 0
  | n + 1 => dN q n + (if q n = true then 1 else 0)
def hasG (gs : List Grp) (j l : Nat) : Bool := gs.any fun g => decide (g.fork = j ∧ g.lane = l)
def later (N : Nt) (j : Nat) : Nat := if j < N.forks.length then 2 * (N.forks.length - 1 - j) + N.lanes else 0
def far (N : Nt) (gs : List Grp) (j : Nat) : Nat := later N j + dN (hasG gs j) N.lanes
end Bn
end
section
set_option maxHeartbeats 4000001
namespace Bn
open PySem L2 Own
end Bn
end
section
set_option maxHeartbeats 4000001
namespace L2
open PySem PySem.Spec PyProof.Rows
section
variable {P : Program} {w : World} {K : PySem.W.Frag} {mg : Str → Option Value} {base : Heap} {k : Nat} {f : Addr} {fd : FuncData} {ps : List Str}
end
end L2
end
section
set_option maxHeartbeats 4000001
namespace L2
open PySem
section
variable {X : Cx} {K : PySem.W.Frag} {a o : Expr} {ta : TE} {f : Str} {pos : Pos}
end
section
variable {K : PySem.W.Frag} {C D : Addr} {cd : ClassData} {b : Bool}
theorem kit_same (h : (Value.ref C == Value.ref C) = true) : PySem.W.kitOne K (.ref C) (.ref C) = some true := if_pos h
theorem kitCls_own (c : PySem.W.clsIn K D = some cd) (t : PySem.W.typeIn K (.ref D) = some (.type "type")) (s : PySem.W.mroIn K C (.ref D) = some b) : PySem.W.kitCls K (.ref C) (.ref D) = some b := by
  simp only [PySem.W.kitCls, c, t]
  exact (if_pos rfl).trans s
theorem kit_other (h : (Value.ref C == Value.ref D) = false) (c : PySem.W.clsIn K D = some cd) (t : PySem.W.typeIn K (.ref D) = some (.type "type")) (s : PySem.W.mroIn K C (.ref D) = some b) : PySem.W.kitOne K (.ref C) (.ref D) = some b := by
  unfold PySem.W.kitOne
  rw [h]
  exact kitCls_own c t s
theorem exm_own (z : PySem.W.mroIn K D (.type "BaseException") = some true) (c : PySem.W.clsIn K D = some cd) (t : PySem.W.typeIn K (.ref D) = some (.type "type")) (s : PySem.W.mroIn K C (.ref D) = some b) : PySem.W.exmOne K (.ref C) (.ref D) = some b := by
  unfold PySem.W.exmOne
  rw [show PySem.W.subIn K (.ref D) (.type "BaseException") = some true from z]
  exact (if_pos rfl).trans (kitCls_own c t s)
theorem nsOk_of {N : Addr} {o : Obj} (l : K.lookup N = some o) (h : PySem.W.nsOkIn [(N, o)] N = true) : PySem.W.nsOkIn K N = true := by
  have e : K.lookup N = List.lookup N [(N, o)] := by rw [l]; simp [List.lookup]
  unfold PySem.W.nsOkIn at h ⊢
  rw [e]
  exact h
theorem tail_own (c : PySem.W.clsIn K D = some cd) (o : PySem.W.nsOkIn K cd.ns = true) (i : PySem.W.nsIn K cd.ns "__init__" = some none) : PySem.W.tailIn K bmV (.ref D :: bmV) = true := by
  obtain ⟨x, y, z, l⟩ := cls_at c
  have t : PySem.W.tailIn K bmV bmV = true := rfl
  rw [PySem.W.tailIn, l]
  dsimp only
  rw [o, i, t]
  exact Bool.or_true _
end
end L2
end
section
set_option maxHeartbeats 4000001
namespace K76
open PySem L2 Own Bn
abbrev sRef : Stmt := top 18
def spRefused (K : PySem.W.Frag) : Sp := fun vs H Q _ => ((∃ x t, vs = [x] ∧ TyOf K H x t ∧ PySem.W.kitOne K t (.type "str") = some false) ∨ ∃ xs : List Wd, vs = [.str (txtW xs)] ∧ xs ≠ [] ∧ xs.length ≤ 1000 ∧ (∀ x ∈ xs, OkW x) ∧ someBad xs = true) ∧ ∀ H', Same H H' → Q (.bl true) H'
theorem readX_of {K : PySem.W.Frag} {C : Addr} {vs : List V} {H : Hp} {Q : VK} {E : XK} (h : (∃ x t, vs = [x] ∧ TyOf K H x t ∧ PySem.W.kitOne K t (.type "str") = some false) ∨ ∃ xs : List Wd, vs = [.str (txtW xs)] ∧ xs ≠ [] ∧ xs.length ≤ 1000 ∧ (∀ x ∈ xs, OkW x) ∧ someBad xs = true)
    (k : ∀ H1 dx, Same H H1 → H1 dx = none → E (.ref C) (some dx) (L2.upd H1 dx (.xd [("row", .int 0)]))) : spReadX K C vs H Q E := by
  rcases h with ⟨x, t, e, ty, kt⟩ | ⟨xs, e, n0, l9, ok, sb⟩
  · exact .inl ⟨x, t, e, ty, kt, fun dx hd => k H dx (Same.refl H) hd⟩
  · exact .inr ⟨xs, e, n0, l9, ok, sb, fun H1 dx s hd => k H1 dx s hd⟩
section
variable {P : Program} {w : World} {K : PySem.W.Frag} {mg : Str → Option Value} {base : Heap}
theorem scRf : FnScope ["_law_thing", "_law_caught", "e"] ["_law_thing"] (defScope sRef) := ⟨rfl, rfl, rfl, by decide +kernel, rfl, by decide +kernel, by decide +kernel⟩
theorem ok_refused {f fR fA C CD CG CN CE L : Addr} {fd dR dA : FuncData} (F : Fun K "_law_refused" "_law_refused" sRef f fd) (G : Mgs mg) (okX : FnOk P w K mg base (CX1 P w) 3 fR dR ["text"] (spReadX K C)) (bR : Binds K dR ["text"] []) (kR : PySem.W.keepIn K (.ref fR) = true) (mR : mg "read_counts" = some (.ref fR))
    (UA : Use P w K mg base "_law_alike" ["_law_found", "_law_due"] 1 (spAlike 0) fA dA) (mL : mg "LaneError" = some (.ref L)) (mV : mg "ValueError" = none) (mD : mg "NoDeed" = some (.ref CD)) (mG : mg "NoGroup" = some (.ref CG)) (mN : mg "NoLine" = some (.ref CN)) (mE : mg "NotEven" = some (.ref CE)) (mT : mg "NoText" = some (.ref C))
    (Z : XIs K C) (xm : PySem.W.exmOne K (.ref C) (.ref L) = some true) (kv : PySem.W.kitOne K (.ref C) (.type "ValueError") = some true) (ka : PySem.W.kitAny K (.ref C) [.ref CD, .ref CG, .ref CN, .ref CE] = some false) (kt : PySem.W.kitOne K (.ref C) (.ref C) = some true) (na : PySem.W.findIn K (.ref C) "row" = some none) : FnOk P w K mg base CX0 4 f fd ["_law_thing"] (spRefused K) := by
  refine F.ok scRf (fun vs H Q E h => ?_) (fun cdv A outer s H vs Q E hr h => ?_)
  · rcases h.1 with ⟨x, t, rfl, _⟩ | ⟨xs, rfl, _⟩ <;> rfl
  obtain ⟨hx, k⟩ := h
  have hr1 : Room 1 _ := hr.mono (by decide)
  refine ⟨_, (@pss_cons _ _ _ _ _ (@ps_set _ _ 1 _ _ _ _ scRf.nd rfl (Or.inl rfl) pe_non (by rfl) (by first | exact .inl rfl | exact .inr rfl | assumption)) (@pss_cons _ _ _ _ _ (ps_tryE (i := 2) (L := L) ⟨⟨rfl, rfl, rfl⟩, fun _ _ z => z⟩ okX hr (by rfl) mR kR bR (@pa_cons _ _ _ _ _ (@pv _ 0 _ _ (by rfl) (by first | exact Or.inl rfl | exact Or.inr (Or.inl rfl) | exact Or.inr (Or.inr rfl)) (by decide) (by decide)) pa_nil (by rfl)) ⟨rfl, mL, rfl⟩ scRf.nd rfl rfl (fun e => @pss_one _ _ _ (@ps_set _ _ 1 _ _ _ _ scRf.nd rfl (Or.inl rfl) (@pv _ 2 _ _ (by rfl) (by first | exact Or.inl rfl | exact Or.inr (Or.inl rfl) | exact Or.inr (Or.inr rfl)) (by decide) (by decide)) (by rfl) (by first | exact .inl rfl | exact .inr rfl | assumption)))) (@pss_cons _ _ _ _ _ (@ps_if _ _ _ _ _ _ _ _ (PW.pt (@pw_or _ _ _ _ _ _ _ (@pt_not _ _ _ _ (@pt_truth _ _ _ (@pe_callB _ _ _ _ _ _ _ _ _ call_isiX (by rfl) G.isi (by rfl) (@pa_cons _ _ _ _ _ (@pv _ 1 _ _ (by rfl) (by first | exact Or.inl rfl | exact Or.inr (Or.inl rfl) | exact Or.inr (Or.inr rfl)) (by decide) (by decide)) (@pa_cons _ _ _ _ _ (@pe_bltn _ _ (.ty "ValueError") _ _ (by rfl) mV (by rfl) (by rfl) (by decide) (by decide)) pa_nil (by rfl)) (by rfl)) (by decide) (by decide) (by rfl) (by rfl)) (fun _ => rfl))) (@pw_or1 _ _ _ _ (@pt_truth _ _ _ (@pe_callB _ _ _ _ _ _ _ _ _ call_isiX (by rfl) G.isi (by rfl) (@pa_cons _ _ _ _ _ (@pv _ 1 _ _ (by rfl) (by first | exact Or.inl rfl | exact Or.inr (Or.inl rfl) | exact Or.inr (Or.inr rfl)) (by decide) (by decide)) (@pa_cons _ _ _ _ _ (@pe_tup _ _ _ _ _ (@pa_cons _ _ _ _ _ (@pe_glob _ _ (.ref CD) _ _ (by rfl) mD (by rfl) (by decide)) (@pa_cons _ _ _ _ _ (@pe_glob _ _ (.ref CG) _ _ (by rfl) mG (by rfl) (by decide)) (@pa_cons _ _ _ _ _ (@pe_glob _ _ (.ref CN) _ _ (by rfl) mN (by rfl) (by decide)) (@pa_cons _ _ _ _ _ (@pe_glob _ _ (.ref CE) _ _ (by rfl) mE (by rfl) (by decide)) pa_nil (by rfl)) (by rfl)) (by rfl)) (by rfl))) pa_nil (by rfl)) (by rfl)) (by decide) (by decide) (by rfl) (by rfl)) (fun _ => rfl))))) (@pss_one _ _ _ (@ps_ret _ _ _ _ pe_bl)) pss_nil) (@pss_one _ _ _ (@ps_ret _ _ _ _ (@pe_and _ _ _ _ _ _ _ (@pe_callB _ _ _ _ _ _ _ _ _ call_isiX (by rfl) G.isi (by rfl) (@pa_cons _ _ _ _ _ (@pv _ 1 _ _ (by rfl) (by first | exact Or.inl rfl | exact Or.inr (Or.inl rfl) | exact Or.inr (Or.inr rfl)) (by decide) (by decide)) (@pa_cons _ _ _ _ _ (@pe_glob _ _ (.ref C) _ _ (by rfl) mT (by rfl) (by decide)) pa_nil (by rfl)) (by rfl)) (by decide) (by decide) (by rfl) (by rfl)) (@pe_one _ _ _ _ _ (@pe_call _ _ _ _ _ _ _ _ _ _ _ _ _ _ _ _ UA.ok hr1 (by rfl) UA.m UA.kp UA.b .nil pass0 (@pa_cons _ _ _ _ _ (pe_xfld (@pv _ 1 _ _ (by rfl) (by first | exact Or.inl rfl | exact Or.inr (Or.inl rfl) | exact Or.inr (Or.inr rfl)) (by decide) (by decide))) (@pa_cons _ _ _ _ _ pe_int pa_nil (by rfl)) (by rfl)) (by decide) (by rfl) (by rfl))))))))), ?_⟩
  obtain ⟨x, rfl⟩ : ∃ x, vs = [x] := by rcases hx with ⟨x, t, rfl, _⟩ | ⟨xs, rfl, _⟩ <;> exact ⟨_, rfl⟩
  refine ⟨_, rfl, readX_of (Q := fun _ _ => True) hx fun H1 dx s1 hd => ⟨C, rfl, xm, fun e he => ?_⟩⟩
  have s2 := s1.trans (same_new hd (.xd [("row", .int 0)]))
  have s3 := same_new he (excO e C (some dx))
  have ed := s3 _ _ (upd_same (H := H1) (a := dx) (o := .xd [("row", .int 0)]))
  refine ⟨_, rfl, ?_⟩
  refine ⟨_, rfl, e, C, dx, _, _, true, rfl, Z, upd_same, ed, .inl ⟨"ValueError", rfl, kv⟩, true, rfl, iteF ?_⟩
  refine ⟨_, rfl, by show 4 ≤ sizeLine; decide, fun tp ht => ?_⟩
  have s4 := same_new ht (.tup [.ref CD, .ref CG, .ref CN, .ref CE])
  have ee := s4 _ _ (upd_same (H := L2.upd H1 dx (.xd [("row", .int 0)])) (a := e) (o := excO e C (some dx)))
  have ed' := s4 _ _ ed
  refine ⟨e, C, dx, _, _, false, rfl, Z, ee, ed', .inr (.inr ⟨tp, [CD, CG, CN, CE], rfl, upd_same, ka⟩), false, rfl, iteF ?_⟩
  refine ⟨_, rfl, e, C, dx, _, _, true, rfl, Z, ee, ed', .inr (.inl ⟨C, rfl, kt⟩), true, rfl, iteT ?_⟩
  exact ⟨_, rfl, e, C, dx, _, _, rfl, Z, ee, ed', na, rfl, _, _, rfl, ⟨rfl, rfl⟩, fun H' s5 => k H' (((s2.trans s3).trans s4).trans s5)⟩
end
end K76
end
section
set_option maxHeartbeats 4000001
namespace K76
open PySem L2 Own Bn
abbrev sNumber : Stmt := top 16
theorem StAt.keep {H H' : Hp} {l : Addr} {n : Nat} (S : StAt H l n) (s : Same H H') : StAt H' l n := by
  obtain ⟨a, b, c, h, r⟩ := S.ex
  exact ⟨a, b, c, s _ _ h, r⟩
theorem StAt.ne {H : Hp} {l p : Addr} {n : Nat} (S : StAt H l n) (h : H p = none) : l ≠ p := by
  obtain ⟨a, b, c, e, _⟩ := S.ex
  exact ne_of_none e h
theorem StAt.upd {H : Hp} {l p : Addr} {o : HO} {n : Nat} (S : StAt H l n) (h : l ≠ p) : StAt (L2.upd H p o) l n := by
  obtain ⟨a, b, c, e, r⟩ := S.ex
  exact ⟨a, b, c, by rw [upd_ne h]; exact e, r⟩
theorem tups_but {H H' : Hp} {l : Addr} {n : Nat} (x : But l H H') (S : StAt H l n) : Tups H H' := fun a xs e => x a _ e (by
  rintro rfl
  obtain ⟨_, _, _, z, _⟩ := S.ex
  rw [z] at e; cases e)
def spNumber (_K : PySem.W.Frag) : Sp := fun vs H Q _ => ∃ (l : Addr) (n : Nat), vs = [.ref l] ∧ StAt H l n ∧ n < 2 ^ 59 ∧ ∀ (x : Int) H', x.natAbs < 10 ^ 30 → StAt H' l (n + 4) → But l H H' → Q (.int x) H'
theorem pow12 {v : Int} (h0 : 0 ≤ v) (h1 : v < 12) : (1 : Int) * 2 ^ v.toNat ≤ 4096 ∧ 0 ≤ (1 : Int) * 2 ^ v.toNat := by
  obtain ⟨j, rfl⟩ := Int.eq_ofNat_of_zero_le (show 0 ≤ v from h0)
  have jl : j < 12 := by lia
  have : ∀ j, j < 12 → (1 : Int) * 2 ^ ((j : Nat) : Int).toNat ≤ 4096 ∧ 0 ≤ (1 : Int) * 2 ^ ((j : Nat) : Int).toNat := by decide
  exact this j jl
section
variable {P : Program} {w : World} {K : PySem.W.Frag} {mg : Str → Option Value} {base : Heap}
theorem scNb : FnScope ["_law_state", "_law_way"] ["_law_state"] (defScope sNumber) := ⟨rfl, rfl, rfl, by decide +kernel, rfl, by decide +kernel, by decide +kernel⟩
theorem ok_number {f g : Addr} {fd gd : FuncData} (F : Fun K "_law_number" "_law_number" sNumber f fd) (UK : Use P w K mg base "_law_take" ["_law_state", "_law_many"] 1 (spTake K) g gd) :
    FnOk P w K mg base CX0 2 f fd ["_law_state"] (spNumber K) := by
  refine F.ok scNb (fun vs H Q E h => ?_) (fun cdv A outer s H vs Q E hr h => ?_)
  · obtain ⟨l, n, rfl, _⟩ := h
    rfl
  · obtain ⟨l, n, rfl, S, hn, k⟩ := h
    refine ⟨_, (@pss_cons _ _ _ _ _ (@ps_set _ _ 1 _ _ _ _ scNb.nd rfl (Or.inl rfl) (@pe_call _ _ _ _ _ _ _ _ _ _ _ _ _ _ _ _ UK.ok hr (by rfl) UK.m UK.kp UK.b .nil pass0 (@pa_cons _ _ _ _ _ (@pv _ 0 _ _ (by rfl) (by first | exact Or.inl rfl | exact Or.inr (Or.inl rfl) | exact Or.inr (Or.inr rfl)) (by decide) (by decide)) (@pa_cons _ _ _ _ _ pe_int pa_nil (by rfl)) (by rfl)) (by decide) (by rfl) (by rfl)) (by rfl) (by first | exact .inl rfl | exact .inr rfl | assumption)) (@pss_cons _ _ _ _ _ (@ps_if _ _ _ _ _ _ _ _ (@pt_cmpR _ _ _ _ _ _ _ _ op_lt (@pv _ 1 _ _ (by rfl) (by first | exact Or.inl rfl | exact Or.inr (Or.inl rfl) | exact Or.inr (Or.inr rfl)) (by decide) (by decide)) pe_int (nomark _)) (@pss_one _ _ _ (@ps_ret _ _ _ _ (@pe_call _ _ _ _ _ _ _ _ _ _ _ _ _ _ _ _ UK.ok hr (by rfl) UK.m UK.kp UK.b .nil pass0 (@pa_cons _ _ _ _ _ (@pv _ 0 _ _ (by rfl) (by first | exact Or.inl rfl | exact Or.inr (Or.inl rfl) | exact Or.inr (Or.inr rfl)) (by decide) (by decide)) (@pa_cons _ _ _ _ _ pe_int pa_nil (by rfl)) (by rfl)) (by decide) (by rfl) (by rfl)))) pss_nil) (@pss_cons _ _ _ _ _ (@ps_if _ _ _ _ _ _ _ _ (@pt_cmpR _ _ _ _ _ _ _ _ op_eq (@pv _ 1 _ _ (by rfl) (by first | exact Or.inl rfl | exact Or.inr (Or.inl rfl) | exact Or.inr (Or.inr rfl)) (by decide) (by decide)) pe_int (nomark _)) (@pss_one _ _ _ (@ps_ret _ _ _ _ (@pe_op _ _ _ _ _ _ _ _ op_sub (@pe_op _ _ _ _ _ _ _ _ op_add (@pe_op _ _ _ _ _ _ _ _ op_shl pe_int (@pe_call _ _ _ _ _ _ _ _ _ _ _ _ _ _ _ _ UK.ok hr (by rfl) UK.m UK.kp UK.b .nil pass0 (@pa_cons _ _ _ _ _ (@pv _ 0 _ _ (by rfl) (by first | exact Or.inl rfl | exact Or.inr (Or.inl rfl) | exact Or.inr (Or.inr rfl)) (by decide) (by decide)) (@pa_cons _ _ _ _ _ pe_int pa_nil (by rfl)) (by rfl)) (by decide) (by rfl) (by rfl))) (@pe_call _ _ _ _ _ _ _ _ _ _ _ _ _ _ _ _ UK.ok hr (by rfl) UK.m UK.kp UK.b .nil pass0 (@pa_cons _ _ _ _ _ (@pv _ 0 _ _ (by rfl) (by first | exact Or.inl rfl | exact Or.inr (Or.inl rfl) | exact Or.inr (Or.inr rfl)) (by decide) (by decide)) (@pa_cons _ _ _ _ _ pe_int pa_nil (by rfl)) (by rfl)) (by decide) (by rfl) (by rfl))) pe_int))) pss_nil) (@pss_cons _ _ _ _ _ (@ps_if _ _ _ _ _ _ _ _ (@pt_cmpR _ _ _ _ _ _ _ _ op_eq (@pv _ 1 _ _ (by rfl) (by first | exact Or.inl rfl | exact Or.inr (Or.inl rfl) | exact Or.inr (Or.inr rfl)) (by decide) (by decide)) pe_int (nomark _)) (@pss_one _ _ _ (@ps_ret _ _ _ _ (@pe_un _ _ _ _ _ _ un_neg (@pe_call _ _ _ _ _ _ _ _ _ _ _ _ _ _ _ _ UK.ok hr (by rfl) UK.m UK.kp UK.b .nil pass0 (@pa_cons _ _ _ _ _ (@pv _ 0 _ _ (by rfl) (by first | exact Or.inl rfl | exact Or.inr (Or.inl rfl) | exact Or.inr (Or.inr rfl)) (by decide) (by decide)) (@pa_cons _ _ _ _ _ pe_int pa_nil (by rfl)) (by rfl)) (by decide) (by rfl) (by rfl))))) pss_nil) (@pss_one _ _ _ (@ps_ret _ _ _ _ (@pe_ix _ _ _ _ _ _ _ ix_list (@pe_lst _ _ _ _ (@pa_cons _ _ _ _ _ (@pe_op _ _ _ _ _ _ _ _ op_mulW pe_int (@pe_op _ _ _ _ _ _ _ _ op_pow pe_int pe_int)) (@pa_cons _ _ _ _ _ (@pe_op _ _ _ _ _ _ _ _ op_sub pe_int (@pe_op _ _ _ _ _ _ _ _ op_mulW pe_int (@pe_op _ _ _ _ _ _ _ _ op_pow pe_int pe_int))) (@pa_cons _ _ _ _ _ (@pe_op _ _ _ _ _ _ _ _ op_add (@pe_op _ _ _ _ _ _ _ _ op_pow pe_int pe_int) (@pe_call _ _ _ _ _ _ _ _ _ _ _ _ _ _ _ _ UK.ok hr (by rfl) UK.m UK.kp UK.b .nil pass0 (@pa_cons _ _ _ _ _ (@pv _ 0 _ _ (by rfl) (by first | exact Or.inl rfl | exact Or.inr (Or.inl rfl) | exact Or.inr (Or.inr rfl)) (by decide) (by decide)) (@pa_cons _ _ _ _ _ pe_int pa_nil (by rfl)) (by rfl)) (by decide) (by rfl) (by rfl))) (@pa_cons _ _ _ _ _ (@pe_un _ _ _ _ _ _ un_neg (@pe_op _ _ _ _ _ _ _ _ op_pow pe_int pe_int)) pa_nil (by rfl)) (by rfl)) (by rfl)) (by rfl))) (@pe_call _ _ _ _ _ _ _ _ _ _ _ _ _ _ _ _ UK.ok hr (by rfl) UK.m UK.kp UK.b .nil pass0 (@pa_cons _ _ _ _ _ (@pv _ 0 _ _ (by rfl) (by first | exact Or.inl rfl | exact Or.inr (Or.inl rfl) | exact Or.inr (Or.inr rfl)) (by decide) (by decide)) (@pa_cons _ _ _ _ _ pe_int pa_nil (by rfl)) (by rfl)) (by decide) (by rfl) (by rfl)) (fun _ _ => rfl)))))))), ?_⟩
    refine ⟨_, rfl, l, 6, n, rfl, by decide, by decide, S, by lia, fun v H1 v0 v1 S1 B1 => ?_⟩
    refine ⟨_, rfl, _, _, rfl, rfl, _, rfl, ite2 (fun q => ?_) (fun q => ?_)⟩
    · refine ⟨_, rfl, l, 9, n + 1, rfl, by decide, by decide, S1, by lia, fun v2 H2 b0 b1 S2 B2 => k _ _ (by lia) (S2.mono (by lia)) (B1.trans B2)⟩
    · refine ⟨_, rfl, rfl, _, rfl, ite2 (fun q2 => ?_) (fun q2 => ?_)⟩
      · refine ⟨_, rfl, l, 12, n + 1, rfl, by decide, by decide, S1, by lia, fun v2 H2 a0 a1 S2 B2 => ⟨_, _, rfl, rfl, ⟨a0, by lia, by decide⟩, ?_⟩⟩
        refine ⟨_, rfl, l, 3, n + 1 + 1, rfl, by decide, by decide, S2, by lia, fun v3 H3 b0 b1 S3 B3 => ⟨_, _, rfl, rfl, _, _, rfl, rfl, k _ _ (by have := pow12 a0 a1; lia) (S3.mono (by lia)) (B1.trans (B2.trans B3))⟩⟩
      · refine ⟨_, rfl, rfl, _, rfl, ite2 (fun q3 => ?_) (fun q3 => ?_)⟩
        · refine ⟨_, rfl, l, 40, n + 1, rfl, by decide, by decide, S1, by lia, fun v2 H2 b0 b1 S2 B2 => ⟨_, rfl, k _ _ (by lia) (S2.mono (by lia)) (B1.trans B2)⟩⟩
        · refine ⟨_, _, rfl, rfl, ⟨by decide, by decide, by decide⟩, _, _, rfl, rfl, ⟨by decide, by decide⟩, _, _, rfl, rfl, ⟨by decide, by decide, by decide⟩, _, _, rfl, rfl, ⟨by decide, by decide⟩, _, _, rfl, rfl, _, _, rfl, rfl, ⟨by decide, by decide, by decide⟩, _, rfl, l, 50, n + 1, rfl, by decide, by decide, S1, by lia, fun v2 H2 b0 b1 S2 B2 => ?_⟩
          refine ⟨_, _, rfl, rfl, _, _, rfl, rfl, ⟨by decide, by decide, by decide⟩, _, rfl, (by show 4 ≤ sizeLine; decide), fun p hp => ?_⟩
          have npl : p ≠ l := fun e => by
            obtain ⟨a, b, c, h, _⟩ := S2.ex
            rw [e, h] at hp; cases hp
          have S2' : StAt (upd H2 p (.lst [.int (9 * 10 ^ (29 : Int).toNat), .int (1 - 9 * 10 ^ (29 : Int).toNat), .int (10 ^ (29 : Int).toNat + v2), .int (-10 ^ (20 : Int).toNat)])) l (n + 1 + 1) := by
            obtain ⟨a, b, c, h, r⟩ := S2.ex
            exact ⟨a, b, c, by rw [upd_ne npl.symm]; exact h, r⟩
          refine ⟨_, rfl, l, 4, n + 1 + 1, rfl, by decide, by decide, S2', by lia, fun v3 H3 c0 c1 S3 B3 => ?_⟩
          have hp3 := B3 p _ upd_same npl
          have f1 : StAt H3 l (n + 4) := S3.mono (by lia)
          have f2 : But l H H3 := B1.trans (B2.trans ((But.of (same_new hp _)).trans B3))
          obtain ⟨j, rfl⟩ := Int.eq_ofNat_of_zero_le c0
          have jl : j < 4 := by lia
          have at4 : ∃ x : Int, atI [V.int (9 * 10 ^ (29 : Int).toNat), .int (1 - 9 * 10 ^ (29 : Int).toNat), .int (10 ^ (29 : Int).toNat + v2), .int (-10 ^ (20 : Int).toNat)] ((j : Nat) : Int) = some (.int x) ∧ x.natAbs < 10 ^ 30 := by
            have e29 : (10 : Int) ^ (29 : Int).toNat = 100000000000000000000000000000 := by decide
            have e20 : (10 : Int) ^ (20 : Int).toNat = 100000000000000000000 := by decide
            have e30 : (10 : Nat) ^ 30 = 1000000000000000000000000000000 := by decide
            rcases j with _ | _ | _ | _ | j
            · exact ⟨_, atI_nat rfl, by rw [e30]; lia⟩
            · exact ⟨_, atI_nat rfl, by rw [e30]; lia⟩
            · exact ⟨_, atI_nat rfl, by rw [e30]; lia⟩
            · exact ⟨_, atI_nat rfl, by rw [e30]; lia⟩
            · lia
          obtain ⟨x, hx, xb⟩ := at4
          exact ⟨p, _, _, _, rfl, rfl, SqL.of hp3, hx, k x _ xb f1 f2⟩
end
end K76
end
section
set_option maxHeartbeats 4000001
namespace K76
open PySem L2 Own Bn
def BadT (t : Str) : Prop := ∃ xs : List Wd, t = txtW xs ∧ xs ≠ [] ∧ xs.length ≤ 1000 ∧ (∀ x ∈ xs, OkW x) ∧ someBad xs = true
def numW (ns : List Int) : List Wd := ns.map Sum.inl
theorem numW_T (ns : List Int) : (numW ns).map wdT = ns.map txt := by unfold numW; rw [List.map_map]; rfl
theorem numW_ok {ns : List Int} (h : ∀ x ∈ ns, x.natAbs < 10 ^ 30) : ∀ x ∈ numW ns, OkW x := fun x hx => by
  obtain ⟨n, hn, rfl⟩ := List.mem_map.mp hx
  exact h n hn
theorem someBad_app (a b : List Wd) : someBad (a ++ b) = (someBad a || someBad b) := by unfold someBad; rw [List.any_append]
theorem bad_at {ns : List Int} {i : Nat} {z : Str} (l : ns.length ≤ 16) (h : ∀ x ∈ ns, x.natAbs < 10 ^ 30) (hz : OkW (.inr z)) : BadT (Txt.join (Str.ofString ",") ((ns.take i).map txt ++ [z] ++ (ns.drop (i + 1)).map txt)) := by
  refine ⟨numW (ns.take i) ++ [.inr z] ++ numW (ns.drop (i + 1)), ?_, by simp, ?_, fun x hx => ?_, ?_⟩
  · unfold txtW; rw [List.map_append, List.map_append, numW_T, numW_T]; rfl
  · rw [List.length_append, List.length_append]; unfold numW; rw [List.length_map, List.length_map, List.length_take, List.length_drop, List.length_singleton]; lia
  · rw [List.append_assoc] at hx
    rcases List.mem_append.mp hx with q1 | q1
    · exact numW_ok (fun y hy => h y (List.mem_of_mem_take hy)) x q1
    · rcases List.mem_cons.mp q1 with rfl | q2
      · exact hz
      · exact numW_ok (fun y hy => h y (List.mem_of_mem_drop hy)) x q2
  · rw [someBad_app, someBad_app, show someBad [Sum.inr z] = true from rfl, Bool.or_true, Bool.true_or]
theorem joinC (ws : List Str) : Txt.join (Str.ofString ",") ws = Str.join cmm ws := by rw [e_comma]; exact StrLaws.glued_eq_join _ _
theorem bad_end {ns : List Int} (n0 : ns ≠ []) (l : ns.length ≤ 16) (h : ∀ x ∈ ns, x.natAbs < 10 ^ 30) : BadT (Txt.join (Str.ofString ",") (ns.map txt) ++ Str.ofString ",") := by
  refine ⟨numW ns ++ [.inr Str.empty], ?_, by simp, ?_, fun x hx => ?_, ?_⟩
  · rw [txtW_join, joinC, e_comma, List.map_append, numW_T]
    exact j_end cmm (fun z => n0 (List.map_eq_nil_iff.mp z))
  · rw [List.length_append]; unfold numW; rw [List.length_map, List.length_singleton]; lia
  · rcases List.mem_append.mp hx with q | q
    · exact numW_ok h x q
    · rw [List.mem_singleton.mp q]; exact bad_nil
  · rw [someBad_app, show someBad [Sum.inr Str.empty] = true from rfl, Bool.or_true]
theorem bad_begin {ns : List Int} (n0 : ns ≠ []) (l : ns.length ≤ 16) (h : ∀ x ∈ ns, x.natAbs < 10 ^ 30) : BadT (Str.ofString "," ++ Txt.join (Str.ofString ",") (ns.map txt)) := by
  refine ⟨.inr Str.empty :: numW ns, ?_, by simp, ?_, fun x hx => ?_, rfl⟩
  · rw [txtW_join, joinC, e_comma, List.map_cons, numW_T]
    exact j_begin cmm (fun z => n0 (List.map_eq_nil_iff.mp z))
  · unfold numW; rw [List.length_cons, List.length_map]; lia
  · rcases List.mem_cons.mp hx with rfl | q
    · exact bad_nil
    · exact numW_ok h x q
theorem two (ns : List Int) (k : Int) (n0 : ns ≠ []) : ∃ a b r, ns ++ [k] = a :: b :: r := by
  cases ns with
  | nil => exact absurd rfl n0
  | cons a r => cases r with
    | nil => exact ⟨a, k, [], rfl⟩
    | cons b r => exact ⟨a, b, r ++ [k], rfl⟩
theorem bad_twice {ns : List Int} (n0 : ns ≠ []) (l : ns.length ≤ 16) (h : ∀ x ∈ ns, x.natAbs < 10 ^ 30) : BadT (Txt.join (Str.ofString ",,") (ns.map txt ++ [Str.ofString "0"])) := by
  have ok : ∀ x ∈ numW (ns ++ [0]), OkW x := numW_ok fun x hx => by
    rcases List.mem_append.mp hx with q | q
    · exact h x q
    · rw [List.mem_singleton.mp q]; decide
  have e : ns.map txt ++ [Str.ofString "0"] = (numW (ns ++ [0])).map wdT := by rw [numW_T, List.map_append]; rfl
  refine ⟨interW (numW (ns ++ [0])), ?_, ?_, ?_, interW_ok ok, ?_⟩
  · rw [txtW_join, interW_map, ← j_twice, e, show Str.ofString ",," = cmm ++ cmm by decide]
    exact StrLaws.glued_eq_join _ _
  · obtain ⟨a, b, r, e2⟩ := two ns 0 n0
    rw [e2]; exact fun z => absurd (congrArg List.length z) (by simp [numW, interW])
  · have := interW_len (numW (ns ++ [0]))
    unfold numW at this ⊢
    rw [List.length_map, List.length_append, List.length_singleton] at this
    lia
  · obtain ⟨a, b, r, e2⟩ := two ns 0 n0
    rw [e2]; exact interW_bad
theorem bad_blanks {ns : List Int} (n0 : ns ≠ []) (l : ns.length ≤ 16) (h : ∀ x ∈ ns, x.natAbs < 10 ^ 30) : BadT (Txt.join (Str.ofString ", ") (ns.map txt ++ [Str.ofString "1"])) := by
  have ok : ∀ x ∈ ns ++ [1], x.natAbs < 10 ^ 30 := fun x hx => by
    rcases List.mem_append.mp hx with q | q
    · exact h x q
    · rw [List.mem_singleton.mp q]; decide
  have e : ns.map txt ++ [Str.ofString "1"] = (ns ++ [1]).map txt := by rw [List.map_append]; rfl
  have ln : (ns ++ [(1 : Int)]).length ≤ 17 := by rw [List.length_append, List.length_singleton]; lia
  obtain ⟨a, b, r, e2⟩ := two ns 1 n0
  rw [e2] at e ok ln
  refine ⟨.inl a :: (b :: r).map (fun n => .inr (blk ++ txt n)), ?_, by simp, ?_, fun x hx => ?_, rfl⟩
  · rw [txtW_join, e, show Str.ofString ", " = cmm ++ blk by decide]
    refine (StrLaws.glued_eq_join _ _).trans ?_
    rw [show (a :: b :: r).map txt = txt a :: (b :: r).map txt from rfl, j_blank, List.map_map]
    show Str.join cmm (txt a :: _) = Str.join cmm (txt a :: List.map wdT ((b :: r).map _))
    rw [List.map_map]
    rfl
  · rw [List.length_cons, List.length_map]; exact Nat.le_trans ln (by decide)
  · rcases List.mem_cons.mp hx with rfl | q
    · exact ok a (List.mem_cons_self ..)
    · obtain ⟨n, hn, rfl⟩ := List.mem_map.mp q
      exact bad_blank n (ok n (List.mem_cons_of_mem _ hn))
def oddL (z1 z2 : Str) : List Str := [Str.ofString "", Str.ofString " ", Str.ofString "01", Str.ofString "+1", Str.ofString "-0", Str.ofString "--1", Str.ofString "x", z1, Str.ofString "-" ++ z2, Str.ofString "1.5", Str.ofString "1 ", Str.ofString " 1"] ++ [Str.ofString "1\n", Str.ofString "00", Str.ofString "-", Str.ofString "1-", Str.ofString "1_0"]
theorem long_ok {z : Str} {c : Nat} (c1 : c ≠ 45) (c2 : c < 128) (c3 : c ≠ 44) (h : z.cps.toList = List.replicate 31 c) : OkW (.inr z) ∧ OkW (.inr (Str.ofString "-" ++ z)) := by
  have zl : z.length = 31 := by show z.cps.size = 31; rw [← Array.length_toList, h, List.length_replicate]
  have f1 : figsOf z = z := by
    unfold figsOf
    rw [if_neg (by rw [h]; exact fun q => c1 (Option.some.inj q))]
  have e2 : (Str.ofString "-" ++ z).cps.toList = 45 :: List.replicate 31 c := by rw [Str.cps_append, Array.toList_append, h]; rfl
  have f2 : (figsOf (Str.ofString "-" ++ z)).length = 31 := by
    unfold figsOf
    rw [if_pos (by rw [e2]; rfl)]
    show (strFrom (Str.ofString "-" ++ z) 1).cps.size = 31
    rw [← Array.length_toList]
    first
    | (simp [strFrom, e2])
    | (unfold strFrom; simp [e2, h])
  have mem : ∀ x ∈ List.replicate 31 c, x = c := fun x hx => List.eq_of_mem_replicate hx
  refine ⟨⟨?_, fun x hx => ?_, ?_, fun x hx => ?_⟩, ⟨?_, fun x hx => ?_, ?_, fun x hx => ?_⟩⟩
  · unfold badW; rw [f1, zl]; rfl
  · rw [h] at hx; rw [mem x hx]; exact c2
  · lia
  · rw [h] at hx; rw [mem x hx]; exact c3
  · unfold badW; rw [f2]; rfl
  · rw [e2] at hx
    rcases List.mem_cons.mp hx with rfl | q
    · decide
    · rw [mem x q]; exact c2
  · rw [Str.length_append, zl]; decide
  · rw [e2] at hx
    rcases List.mem_cons.mp hx with rfl | q
    · decide
    · rw [mem x q]; exact c3
theorem odd_ok {z1 z2 : Str} (h1 : z1.cps.toList = List.replicate 31 49) (h2 : z2.cps.toList = List.replicate 31 50) : ∀ z ∈ oddL z1 z2, OkW (.inr z) := by
  have a := (long_ok (by decide) (by decide) (by decide) h1).1
  have b := (long_ok (by decide) (by decide) (by decide) h2).2
  intro z hz
  simp only [oddL, List.mem_append, List.mem_cons, List.mem_nil_iff, or_false] at hz
  rcases hz with (rfl | rfl | rfl | rfl | rfl | rfl | rfl | rfl | rfl | rfl | rfl | rfl) | (rfl | rfl | rfl | rfl | rfl)
  all_goals first | exact a | exact b | exact ⟨by decide, by decide, by decide, by decide⟩
theorem join_W {sep : Str} {ss : List Str} (s : sep.length ≤ 2) (l : ss.length ≤ 100) (h : ∀ z ∈ ss, z.length ≤ 1000) : JoinOk sep ss = true := by
  unfold JoinOk
  rw [Bool.not_eq_true']
  refine StrLaws.joinFits (B := 1000) h ?_
  have : ss.length * sep.length ≤ 100 * 2 := Nat.mul_le_mul l s
  lia
end K76
end
section
set_option maxHeartbeats 4000001
namespace K76
open PySem L2 Own Bn
section
variable {P : Program} {w : World} {K : PySem.W.Frag} {mg : Str → Option Value} {base : Heap}
theorem scBd : FnScope ["_law_state", "_law_words", "_law_at", "_law_odd", "_law_bad_here", "_law_texts"] ["_law_state", "_law_words"] (defScope sBad) := ⟨rfl, rfl, rfl, by decide +kernel, rfl, by decide +kernel, by decide +kernel⟩
theorem ok_bad {f fT : Addr} {fd dT : FuncData} (F : Fun K "_law_bad" "_law_bad" sBad f fd) (G : Mgs mg) (UT : Use P w K mg base "_law_take" ["_law_state", "_law_many"] 1 (spTake K) fT dT) : FnOk P w K mg base CX0 2 f fd ["_law_state", "_law_words"] (spBad K) := by
  refine F.ok scBd (fun vs H Q E h => ?_) (fun cdv A outer s H vs Q E hr h => ?_)
  · obtain ⟨l, lw, n, ns, rfl, _⟩ := h
    rfl
  obtain ⟨l, lw, n, ns, rfl, st, nb, ne, hw, l1, l16, small, k⟩ := h
  have n0 : ns ≠ [] := fun z => by rw [z] at l1; exact absurd l1 (by decide)
  refine ⟨_, (@pss_cons _ _ _ _ _ (@ps_set _ _ 2 _ _ _ _ scBd.nd rfl (Or.inl rfl) (@pe_call _ _ _ _ _ _ _ _ _ _ _ _ _ _ _ _ UT.ok hr (by rfl) UT.m UT.kp UT.b .nil pass0 (@pa_cons _ _ _ _ _ (@pv _ 0 _ _ (by rfl) (by first | exact Or.inl rfl | exact Or.inr (Or.inl rfl) | exact Or.inr (Or.inr rfl)) (by decide) (by decide)) (@pa_cons _ _ _ _ _ (@pe_callB _ _ _ _ _ _ _ _ _ call_len_seq (by rfl) G.len PySem.boot_len (@pa_cons _ _ _ _ _ (@pv _ 1 _ _ (by rfl) (by first | exact Or.inl rfl | exact Or.inr (Or.inl rfl) | exact Or.inr (Or.inr rfl)) (by decide) (by decide)) pa_nil (by rfl)) (by decide) (by decide) (by rfl) (by rfl)) pa_nil (by rfl)) (by rfl)) (by decide) (by rfl) (by rfl)) (by rfl) (by first | exact .inl rfl | exact .inr rfl | assumption)) (@pss_cons _ _ _ _ _ (@ps_set _ _ 3 _ _ _ _ scBd.nd rfl (Or.inl rfl) (@pe_lst _ _ _ _ (@pa_cons _ _ _ _ _ pe_str (@pa_cons _ _ _ _ _ pe_str (@pa_cons _ _ _ _ _ pe_str (@pa_cons _ _ _ _ _ pe_str (@pa_cons _ _ _ _ _ pe_str (@pa_cons _ _ _ _ _ pe_str (@pa_cons _ _ _ _ _ pe_str (@pa_cons _ _ _ _ _ (@pe_op _ _ _ _ _ _ _ _ op_repS pe_str pe_int) (@pa_cons _ _ _ _ _ (@pe_op _ _ _ _ _ _ _ _ op_add_str pe_str (@pe_op _ _ _ _ _ _ _ _ op_repS pe_str pe_int)) (@pa_cons _ _ _ _ _ pe_str (@pa_cons _ _ _ _ _ pe_str (@pa_cons _ _ _ _ _ pe_str pa_nil (by rfl)) (by rfl)) (by rfl)) (by rfl)) (by rfl)) (by rfl)) (by rfl)) (by rfl)) (by rfl)) (by rfl)) (by rfl)) (by rfl))) (by rfl) (by first | exact .inl rfl | exact .inr rfl | assumption)) (@pss_cons _ _ _ _ _ (@ps_set _ _ 3 _ _ _ _ scBd.nd rfl (Or.inl rfl) (@pe_op _ _ _ _ _ _ _ _ op_cat (@pv _ 3 _ _ (by rfl) (by first | exact Or.inl rfl | exact Or.inr (Or.inl rfl) | exact Or.inr (Or.inr rfl)) (by decide) (by decide)) (@pe_lst _ _ _ _ (@pa_cons _ _ _ _ _ pe_str (@pa_cons _ _ _ _ _ pe_str (@pa_cons _ _ _ _ _ pe_str (@pa_cons _ _ _ _ _ pe_str (@pa_cons _ _ _ _ _ pe_str pa_nil (by rfl)) (by rfl)) (by rfl)) (by rfl)) (by rfl)))) (by rfl) (by first | exact .inl rfl | exact .inr rfl | assumption)) (@pss_cons _ _ _ _ _ (@ps_set _ _ 4 _ _ _ _ scBd.nd rfl (Or.inl rfl) (@pe_op _ _ _ _ _ _ _ _ op_cat (@pe_op _ _ _ _ _ _ _ _ op_cat (@pe_slice _ _ _ _ _ _ _ _ _ _ sl_list (@pv _ 1 _ _ (by rfl) (by first | exact Or.inl rfl | exact Or.inr (Or.inl rfl) | exact Or.inr (Or.inr rfl)) (by decide) (by decide)) po_none (@po_some _ _ _ (@pv _ 2 _ _ (by rfl) (by first | exact Or.inl rfl | exact Or.inr (Or.inl rfl) | exact Or.inr (Or.inr rfl)) (by decide) (by decide)))) (@pe_lst _ _ _ _ (@pa_cons _ _ _ _ _ (@pe_ix _ _ _ _ _ _ _ ix_list (@pv _ 3 _ _ (by rfl) (by first | exact Or.inl rfl | exact Or.inr (Or.inl rfl) | exact Or.inr (Or.inr rfl)) (by decide) (by decide)) (@pe_call _ _ _ _ _ _ _ _ _ _ _ _ _ _ _ _ UT.ok hr (by rfl) UT.m UT.kp UT.b .nil pass0 (@pa_cons _ _ _ _ _ (@pv _ 0 _ _ (by rfl) (by first | exact Or.inl rfl | exact Or.inr (Or.inl rfl) | exact Or.inr (Or.inr rfl)) (by decide) (by decide)) (@pa_cons _ _ _ _ _ (@pe_callB _ _ _ _ _ _ _ _ _ call_len_seq (by rfl) G.len PySem.boot_len (@pa_cons _ _ _ _ _ (@pv _ 3 _ _ (by rfl) (by first | exact Or.inl rfl | exact Or.inr (Or.inl rfl) | exact Or.inr (Or.inr rfl)) (by decide) (by decide)) pa_nil (by rfl)) (by decide) (by decide) (by rfl) (by rfl)) pa_nil (by rfl)) (by rfl)) (by decide) (by rfl) (by rfl)) (fun _ _ => rfl)) pa_nil (by rfl)))) (@pe_slice _ _ _ _ _ _ _ _ _ _ sl_list (@pv _ 1 _ _ (by rfl) (by first | exact Or.inl rfl | exact Or.inr (Or.inl rfl) | exact Or.inr (Or.inr rfl)) (by decide) (by decide)) (@po_some _ _ _ (@pe_op _ _ _ _ _ _ _ _ op_add (@pv _ 2 _ _ (by rfl) (by first | exact Or.inl rfl | exact Or.inr (Or.inl rfl) | exact Or.inr (Or.inr rfl)) (by decide) (by decide)) pe_int)) po_none)) (by rfl) (by first | exact .inl rfl | exact .inr rfl | assumption)) (@pss_cons _ _ _ _ _ (@ps_set _ _ 5 _ _ _ _ scBd.nd rfl (Or.inl rfl) (@pe_lst _ _ _ _ (@pa_cons _ _ _ _ _ (@pe_bm _ _ _ _ _ _ _ _ _ _ _ _ PySem.F.plainAttrs_str PySem.F.slot_str_join PySem.F.type_str_join mt_join pe_str (@pa_cons _ _ _ _ _ (@pv _ 4 _ _ (by rfl) (by first | exact Or.inl rfl | exact Or.inr (Or.inl rfl) | exact Or.inr (Or.inr rfl)) (by decide) (by decide)) pa_nil (by rfl)) (by rfl) (by rfl) (by rfl) (by rfl) (by rfl)) (@pa_cons _ _ _ _ _ (@pe_op _ _ _ _ _ _ _ _ op_add_str (@pe_bm _ _ _ _ _ _ _ _ _ _ _ _ PySem.F.plainAttrs_str PySem.F.slot_str_join PySem.F.type_str_join mt_join pe_str (@pa_cons _ _ _ _ _ (@pv _ 1 _ _ (by rfl) (by first | exact Or.inl rfl | exact Or.inr (Or.inl rfl) | exact Or.inr (Or.inr rfl)) (by decide) (by decide)) pa_nil (by rfl)) (by rfl) (by rfl) (by rfl) (by rfl) (by rfl)) pe_str) (@pa_cons _ _ _ _ _ (@pe_op _ _ _ _ _ _ _ _ op_add_str pe_str (@pe_bm _ _ _ _ _ _ _ _ _ _ _ _ PySem.F.plainAttrs_str PySem.F.slot_str_join PySem.F.type_str_join mt_join pe_str (@pa_cons _ _ _ _ _ (@pv _ 1 _ _ (by rfl) (by first | exact Or.inl rfl | exact Or.inr (Or.inl rfl) | exact Or.inr (Or.inr rfl)) (by decide) (by decide)) pa_nil (by rfl)) (by rfl) (by rfl) (by rfl) (by rfl) (by rfl))) (@pa_cons _ _ _ _ _ (@pe_bm _ _ _ _ _ _ _ _ _ _ _ _ PySem.F.plainAttrs_str PySem.F.slot_str_join PySem.F.type_str_join mt_join pe_str (@pa_cons _ _ _ _ _ (@pe_op _ _ _ _ _ _ _ _ op_cat (@pv _ 1 _ _ (by rfl) (by first | exact Or.inl rfl | exact Or.inr (Or.inl rfl) | exact Or.inr (Or.inr rfl)) (by decide) (by decide)) (@pe_lst _ _ _ _ (@pa_cons _ _ _ _ _ pe_str pa_nil (by rfl)))) pa_nil (by rfl)) (by rfl) (by rfl) (by rfl) (by rfl) (by rfl)) pa_nil (by rfl)) (by rfl)) (by rfl)) (by rfl))) (by rfl) (by first | exact .inl rfl | exact .inr rfl | assumption)) (@pss_cons _ _ _ _ _ (@ps_expr _ _ _ _ (@pe_bm _ _ _ _ _ _ _ _ _ _ _ _ PySem.F.plainAttrs_list PySem.F.slot_list_append PySem.F.type_list_append mt_append (@pv _ 5 _ _ (by rfl) (by first | exact Or.inl rfl | exact Or.inr (Or.inl rfl) | exact Or.inr (Or.inr rfl)) (by decide) (by decide)) (@pa_cons _ _ _ _ _ (@pe_bm _ _ _ _ _ _ _ _ _ _ _ _ PySem.F.plainAttrs_str PySem.F.slot_str_join PySem.F.type_str_join mt_join pe_str (@pa_cons _ _ _ _ _ (@pe_op _ _ _ _ _ _ _ _ op_cat (@pv _ 1 _ _ (by rfl) (by first | exact Or.inl rfl | exact Or.inr (Or.inl rfl) | exact Or.inr (Or.inr rfl)) (by decide) (by decide)) (@pe_lst _ _ _ _ (@pa_cons _ _ _ _ _ pe_str pa_nil (by rfl)))) pa_nil (by rfl)) (by rfl) (by rfl) (by rfl) (by rfl) (by rfl)) pa_nil (by rfl)) (by rfl) (by rfl) (by rfl) (by rfl) (by rfl)) (by rfl)) (@pss_one _ _ _ (@ps_ret _ _ _ _ (@pe_ix _ _ _ _ _ _ _ ix_list (@pv _ 5 _ _ (by rfl) (by first | exact Or.inl rfl | exact Or.inr (Or.inl rfl) | exact Or.inr (Or.inr rfl)) (by decide) (by decide)) (@pe_ix _ _ _ _ _ _ _ ix_list (@pe_lst _ _ _ _ (@pa_cons _ _ _ _ _ pe_int (@pa_cons _ _ _ _ _ pe_int (@pa_cons _ _ _ _ _ pe_int (@pa_cons _ _ _ _ _ pe_int (@pa_cons _ _ _ _ _ pe_int (@pa_cons _ _ _ _ _ pe_int (@pa_cons _ _ _ _ _ pe_int pa_nil (by rfl)) (by rfl)) (by rfl)) (by rfl)) (by rfl)) (by rfl)) (by rfl))) (@pe_call _ _ _ _ _ _ _ _ _ _ _ _ _ _ _ _ UT.ok hr (by rfl) UT.m UT.kp UT.b .nil pass0 (@pa_cons _ _ _ _ _ (@pv _ 0 _ _ (by rfl) (by first | exact Or.inl rfl | exact Or.inr (Or.inl rfl) | exact Or.inr (Or.inr rfl)) (by decide) (by decide)) (@pa_cons _ _ _ _ _ pe_int pa_nil (by rfl)) (by rfl)) (by decide) (by rfl) (by rfl)) (fun _ _ => rfl)) (fun _ _ => rfl)))))))))), ?_⟩
  have tl : ∀ x ∈ ns, (txt x).length ≤ 31 := fun x hx => (txt_len (small x hx)).2
  refine seq_late (fun Da hDa => ?_)
  refine ⟨_, rfl, _, rfl, lw, _, rfl, .inl (SqL.of hw), l, _, n, rfl, by rw [List.length_map]; lia, by rw [List.length_map]; lia, st, by lia, fun v1 H1 v10 v11 st1 B1 => hDa _ _ ?_⟩
  clear hDa
  have hw1 := B1 _ _ hw ne.symm
  obtain ⟨i, rfl⟩ := Int.eq_ofNat_of_zero_le v10
  have il : i < ns.length := by rw [List.length_map] at v11; lia
  refine seq_late (fun Db hDb => ?_)
  refine ⟨49, 31, congrArg V.str (by decide), rfl, by decide, by decide, fun z1 hz1 => ⟨50, 31, congrArg V.str (by decide), rfl, by decide, by decide, fun z2 hz2 => ?_⟩⟩
  have z2l : z2.length = 31 := by show z2.cps.size = 31; rw [← Array.length_toList, hz2]; rfl
  refine ⟨_, _, rfl, rfl, by rw [z2l, sizeLine_eq]; decide, by show 12 ≤ sizeLine; decide, fun p hp => hDb _ _ ?_⟩
  clear hDb
  refine seq_late (fun Dc hDc => ?_)
  refine ⟨_, rfl, by show 5 ≤ sizeLine; decide, fun q hq => ?_⟩
  have pq := ne_of_none (upd_same (H := H1) (a := p)) hq
  refine ⟨p, q, _, _, rfl, rfl, (by rw [upd_ne pq]; exact upd_same), upd_same, by show 12 + 5 ≤ sizeLine; decide, fun o ho => hDc _ _ ?_⟩
  clear hDc
  have odd := odd_ok hz1 hz2
  have ol : (oddL z1 z2).length = 17 := rfl
  have s2 := (same_new hp (.lst [.str "", .str " ", .str "01", .str "+1", .str "-0", .str "--1", .str "x", .str z1, .str (Str.ofString "-" ++ z2), .str "1.5", .str "1 ", .str " 1"])).trans ((same_new hq (.lst [.str "1\n", .str "00", .str "-", .str "1-", .str "1_0"])).trans (same_new ho (.lst ([.str "", .str " ", .str "01", .str "+1", .str "-0", .str "--1", .str "x", .str z1, .str (Str.ofString "-" ++ z2), .str "1.5", .str "1 ", .str " 1"] ++ [.str "1\n", .str "00", .str "-", .str "1-", .str "1_0"]))))
  have ho2 : (L2.upd (L2.upd (L2.upd H1 p (.lst [.str "", .str " ", .str "01", .str "+1", .str "-0", .str "--1", .str "x", .str z1, .str (Str.ofString "-" ++ z2), .str "1.5", .str "1 ", .str " 1"])) q (.lst [.str "1\n", .str "00", .str "-", .str "1-", .str "1_0"])) o (.lst ([.str "", .str " ", .str "01", .str "+1", .str "-0", .str "--1", .str "x", .str z1, .str (Str.ofString "-" ++ z2), .str "1.5", .str "1 ", .str " 1"] ++ [.str "1\n", .str "00", .str "-", .str "1-", .str "1_0"]))) o = some (.lst ((oddL z1 z2).map V.str)) := upd_same
  have hw2 := s2 _ _ hw1
  have st2 := st1.keep s2
  have B2 := B1.trans (But.of s2)
  generalize (L2.upd (L2.upd (L2.upd H1 p (.lst [.str "", .str " ", .str "01", .str "+1", .str "-0", .str "--1", .str "x", .str z1, .str (Str.ofString "-" ++ z2), .str "1.5", .str "1 ", .str " 1"])) q (.lst [.str "1\n", .str "00", .str "-", .str "1-", .str "1_0"])) o (.lst ([.str "", .str " ", .str "01", .str "+1", .str "-0", .str "--1", .str "x", .str z1, .str (Str.ofString "-" ++ z2), .str "1.5", .str "1 ", .str " 1"] ++ [.str "1\n", .str "00", .str "-", .str "1-", .str "1_0"]))) = H2 at ho2 hw2 st2 B2 ⊢
  clear s2 ho hq hp pq st1 B1 hw1
  have on : o ≠ l := fun z => by
    obtain ⟨a, b, c, h, _⟩ := st2.ex
    rw [← z, ho2] at h
    have e3 := congrArg List.length (HO.lst.inj (Option.some.inj h))
    rw [List.length_map, ol] at e3
    have e4 : (17 : Nat) = 3 := e3
    lia
  refine seq_late (fun Dd hDd => ?_)
  refine ⟨_, rfl, _, rfl, _, rfl, lw, _, rfl, SqL.of hw2, fun p3 hp3 => ?_⟩
  rw [cut_upto _ i (by rw [List.length_map]; lia)]
  have s3 := same_new hp3 (.lst ((ns.map fun x => V.str (txt x)).take i))
  have st3 := st2.keep s3
  refine ⟨_, rfl, _, rfl, _, rfl, o, _, rfl, .inl (SqL.of (s3 _ _ ho2)), l, _, n + 1, rfl, by rw [List.length_map, ol]; decide, by rw [List.length_map, ol]; decide, st3, by lia, fun v2 H4 v20 v21 st4 B4 => ?_⟩
  have p3l : p3 ≠ l := (StAt.ne st2 hp3).symm
  have h34 := B4 _ _ upd_same p3l
  have ho4 := B4 _ _ (s3 _ _ ho2) on
  have hw4 := B4 _ _ (s3 _ _ hw2) ne.symm
  have B24 := (But.of (l := l) s3).trans B4
  obtain ⟨j, rfl⟩ := Int.eq_ofNat_of_zero_le v20
  have jl : j < (oddL z1 z2).length := by rw [List.length_map] at v21; lia
  refine ⟨o, _, _, _, rfl, rfl, SqL.of ho4, atI_nat (by rw [List.getElem?_map, List.getElem?_eq_getElem jl]; rfl), by show 1 ≤ sizeLine; decide, fun p4 hp4 => ?_⟩
  have okz := odd _ (List.getElem_mem jl)
  generalize (oddL z1 z2)[j] = z at okz ⊢
  have s4 := same_new hp4 (.lst [.str z])
  refine ⟨p3, p4, _, _, rfl, rfl, s4 _ _ h34, upd_same, by rw [List.length_take, sizeLine_eq]; show _ + 1 ≤ _; rw [List.length_map]; lia, fun p5 hp5 => ?_⟩
  have s5 := s4.trans (same_new hp5 (.lst ((ns.map fun x => V.str (txt x)).take i ++ [.str z])))
  refine ⟨_, rfl, _, rfl, _, _, rfl, rfl, _, rfl, lw, _, rfl, SqL.of (s5 _ _ hw4), fun p6 hp6 => ?_⟩
  rw [show ((i : Nat) : Int) + 1 = ((i + 1 : Nat) : Int) from rfl, cut_from _ (i + 1) (by rw [List.length_map]; lia)]
  have s6 := s5.trans (same_new hp6 (.lst ((ns.map fun x => V.str (txt x)).drop (i + 1))))
  refine ⟨p5, p6, _, _, rfl, rfl, same_new hp6 _ _ _ upd_same, upd_same, by rw [List.length_append, List.length_take, List.length_drop, List.length_map, sizeLine_eq]; show _ + 1 + _ ≤ _; lia, fun p7 hp7 => hDd _ _ ?_⟩
  clear hDd
  have s7 := s6.trans (same_new hp7 (.lst ((ns.map fun x => V.str (txt x)).take i ++ [.str z] ++ (ns.map fun x => V.str (txt x)).drop (i + 1))))
  have h7 : (L2.upd (L2.upd (L2.upd (L2.upd H4 p4 (.lst [.str z])) p5 (.lst ((ns.map fun x => V.str (txt x)).take i ++ [.str z]))) p6 (.lst ((ns.map fun x => V.str (txt x)).drop (i + 1)))) p7 (.lst ((ns.map fun x => V.str (txt x)).take i ++ [.str z] ++ (ns.map fun x => V.str (txt x)).drop (i + 1)))) p7 = some (.lst (((ns.take i).map txt ++ [z] ++ (ns.drop (i + 1)).map txt).map V.str)) := by
    rw [upd_same, List.map_append, List.map_append, List.map_map, List.map_map, List.map_take, List.map_drop]; rfl
  have hw7 : (L2.upd (L2.upd (L2.upd (L2.upd H4 p4 (.lst [.str z])) p5 (.lst ((ns.map fun x => V.str (txt x)).take i ++ [.str z]))) p6 (.lst ((ns.map fun x => V.str (txt x)).drop (i + 1)))) p7 (.lst ((ns.map fun x => V.str (txt x)).take i ++ [.str z] ++ (ns.map fun x => V.str (txt x)).drop (i + 1)))) lw = some (.lst ((ns.map txt).map V.str)) := by
    rw [List.map_map]; exact s7 _ _ hw4
  have st7 := st4.keep s7
  have B7 := B2.trans (B24.trans (But.of s7))
  generalize (L2.upd (L2.upd (L2.upd (L2.upd H4 p4 (.lst [.str z])) p5 (.lst ((ns.map fun x => V.str (txt x)).take i ++ [.str z]))) p6 (.lst ((ns.map fun x => V.str (txt x)).drop (i + 1)))) p7 (.lst ((ns.map fun x => V.str (txt x)).take i ++ [.str z] ++ (ns.map fun x => V.str (txt x)).drop (i + 1)))) = H7 at h7 hw7 st7 B7 ⊢
  clear s7 s6 s5 s4 hp7 hp6 hp5 hp4 st4 B4 B24 B2 h34 ho4 hw4 st3 s3 hp3 st2 hw2 ho2
  have tw : (Txt.join (Str.ofString ",") (ns.map txt)).length + 2 ≤ sizeLine := by
    have a := len_W (xs := numW ns) (by unfold numW; rw [List.length_map]; lia) (numW_ok small)
    unfold txtW at a
    rwa [numW_T] at a
  have wl : ∀ y ∈ ns.map txt, y.length ≤ 1000 := fun y hy => by
    obtain ⟨x, hx, rfl⟩ := List.mem_map.mp hy
    exact Nat.le_trans (tl x hx) (by decide)
  have zl : z.length ≤ 1000 := okz.2.2.1
  have j0 : JoinOk (Str.ofString ",") ((ns.take i).map txt ++ [z] ++ (ns.drop (i + 1)).map txt) = true := by
    refine join_W (by decide) ?_ fun y hy => ?_
    · rw [List.length_append, List.length_append, List.length_map, List.length_map, List.length_take, List.length_drop, List.length_singleton]; lia
    · rw [List.append_assoc] at hy
      rcases List.mem_append.mp hy with c | c
      · exact wl y (by rw [List.map_take] at c; exact List.mem_of_mem_take c)
      · rcases List.mem_cons.mp c with rfl | c
        · exact zl
        · exact wl y (by rw [List.map_drop] at c; exact List.mem_of_mem_drop c)
  have j1 : JoinOk (Str.ofString ",") (ns.map txt) = true := join_W (by decide) (by rw [List.length_map]; lia) wl
  have j2 : ∀ (sep a : Str), sep.length ≤ 2 → a.length ≤ 1000 → JoinOk sep (ns.map txt ++ [a]) = true := fun sep a h1 h2 => by
    refine join_W h1 (by rw [List.length_append, List.length_map, List.length_singleton]; lia) fun y hy => ?_
    rcases List.mem_append.mp hy with c | c
    · exact wl y c
    · rw [List.mem_singleton.mp c]; exact h2
  refine seq_late (fun De hDe => ?_)
  refine ⟨rfl, _, rfl, _, p7, _, rfl, rfl, SqL.of h7, j0, rfl, _, rfl, _, lw, _, rfl, rfl, SqL.of hw7, j1, _, _, rfl, rfl, Nat.le_trans (Nat.add_le_add_left (by decide : (Str.ofString ",").length ≤ 2) _) tw, ?_⟩
  refine ⟨rfl, _, rfl, _, lw, _, rfl, rfl, SqL.of hw7, j1, _, _, rfl, rfl, by rw [Nat.add_comm]; exact Nat.le_trans (Nat.add_le_add_left (by decide : (Str.ofString ",").length ≤ 2) _) tw, ?_⟩
  refine ⟨rfl, _, rfl, by show 1 ≤ sizeLine; decide, fun q1 hq1 => ?_⟩
  have u1 := same_new hq1 (.lst [.str "0"])
  refine ⟨lw, q1, _, _, rfl, rfl, u1 _ _ hw7, upd_same, by rw [List.length_map, List.length_map, sizeLine_eq]; show _ + 1 ≤ _; lia, fun q2 hq2 => ?_⟩
  have u2 := u1.trans (same_new hq2 (.lst ((ns.map txt).map V.str ++ [.str "0"])))
  refine ⟨_, q2, ns.map txt ++ [Str.ofString "0"], rfl, rfl, by rw [List.map_append]; exact SqL.of upd_same, j2 _ _ (by decide) (by decide), by show 4 ≤ sizeLine; decide, fun q3 hq3 => hDe _ _ ?_⟩
  clear hDe
  have u3 := u2.trans (same_new hq3 (.lst [.str (Txt.join (Str.ofString ",") ((ns.take i).map txt ++ [z] ++ (ns.drop (i + 1)).map txt)), .str (Txt.join (Str.ofString ",") (ns.map txt) ++ Str.ofString ","), .str (Str.ofString "," ++ Txt.join (Str.ofString ",") (ns.map txt)), .str (Txt.join (Str.ofString ",,") (ns.map txt ++ [Str.ofString "0"]))]))
  have h3 : (L2.upd (L2.upd (L2.upd H7 q1 (.lst [.str "0"])) q2 (.lst ((ns.map txt).map V.str ++ [.str "0"]))) q3 (.lst [.str (Txt.join (Str.ofString ",") ((ns.take i).map txt ++ [z] ++ (ns.drop (i + 1)).map txt)), .str (Txt.join (Str.ofString ",") (ns.map txt) ++ Str.ofString ","), .str (Str.ofString "," ++ Txt.join (Str.ofString ",") (ns.map txt)), .str (Txt.join (Str.ofString ",,") (ns.map txt ++ [Str.ofString "0"]))])) q3 = some (.lst [.str (Txt.join (Str.ofString ",") ((ns.take i).map txt ++ [z] ++ (ns.drop (i + 1)).map txt)), .str (Txt.join (Str.ofString ",") (ns.map txt) ++ Str.ofString ","), .str (Str.ofString "," ++ Txt.join (Str.ofString ",") (ns.map txt)), .str (Txt.join (Str.ofString ",,") (ns.map txt ++ [Str.ofString "0"]))]) := upd_same
  have ql : q3 ≠ l := (StAt.ne (st7.keep u2) hq3).symm
  have qw : q3 ≠ lw := (ne_of_none (u2 _ _ hw7) hq3).symm
  have n7 : H7 q3 = none := u2.free hq3
  have hw8 := u3 _ _ hw7
  have st8 := st7.keep u3
  generalize (L2.upd (L2.upd (L2.upd H7 q1 (.lst [.str "0"])) q2 (.lst ((ns.map txt).map V.str ++ [.str "0"]))) q3 (.lst [.str (Txt.join (Str.ofString ",") ((ns.take i).map txt ++ [z] ++ (ns.drop (i + 1)).map txt)), .str (Txt.join (Str.ofString ",") (ns.map txt) ++ Str.ofString ","), .str (Str.ofString "," ++ Txt.join (Str.ofString ",") (ns.map txt)), .str (Txt.join (Str.ofString ",,") (ns.map txt ++ [Str.ofString "0"]))])) = H8 at h3 hw8 st8 u3 ⊢
  clear u1 u2 hq1 hq2 hq3 h7
  refine seq_late (fun Df hDf => ?_)
  refine ⟨_, rfl, .inl ⟨rfl, _, SqL.of h3⟩, rfl, _, rfl, by show 1 ≤ sizeLine; decide, fun q4 hq4 => ?_⟩
  have u4 := same_new hq4 (.lst [.str "1"])
  refine ⟨lw, q4, _, _, rfl, rfl, u4 _ _ hw8, upd_same, by rw [List.length_map, List.length_map, sizeLine_eq]; show _ + 1 ≤ _; lia, fun q5 hq5 => ?_⟩
  have u5 := u4.trans (same_new hq5 (.lst ((ns.map txt).map V.str ++ [.str "1"])))
  refine ⟨_, q5, ns.map txt ++ [Str.ofString "1"], rfl, rfl, by rw [List.map_append]; exact SqL.of upd_same, j2 _ _ (by decide) (by decide), q3, _, _, rfl, rfl, u5 _ _ h3, by show 4 < sizeLine; decide, hDf _ _ ?_⟩
  clear hDf
  have bad : ∀ t ∈ [Txt.join (Str.ofString ",") ((ns.take i).map txt ++ [z] ++ (ns.drop (i + 1)).map txt), Txt.join (Str.ofString ",") (ns.map txt) ++ Str.ofString ",", Str.ofString "," ++ Txt.join (Str.ofString ",") (ns.map txt), Txt.join (Str.ofString ",,") (ns.map txt ++ [Str.ofString "0"]), Txt.join (Str.ofString ", ") (ns.map txt ++ [Str.ofString "1"])], BadT t := by
    intro t ht
    simp only [List.mem_cons, List.mem_nil_iff, or_false] at ht
    rcases ht with rfl | rfl | rfl | rfl | rfl
    · exact bad_at l16 small okz
    · exact bad_end n0 l16 small
    · exact bad_begin n0 l16 small
    · exact bad_twice n0 l16 small
    · exact bad_blanks n0 l16 small
  refine ⟨_, rfl, by show 7 ≤ sizeLine; decide, fun q6 hq6 => ?_⟩
  have st9 := StAt.upd (o := .lst ([.str (Txt.join (Str.ofString ",") ((ns.take i).map txt ++ [z] ++ (ns.drop (i + 1)).map txt)), .str (Txt.join (Str.ofString ",") (ns.map txt) ++ Str.ofString ","), .str (Str.ofString "," ++ Txt.join (Str.ofString ",") (ns.map txt)), .str (Txt.join (Str.ofString ",,") (ns.map txt ++ [Str.ofString "0"]))] ++ [V.str (Txt.join (Str.ofString ", ") (ns.map txt ++ [Str.ofString "1"]))])) (st8.keep u5) ql.symm
  have u6 := same_new hq6 (.lst [.int 0, .int 0, .int 0, .int 1, .int 2, .int 3, .int 4])
  have q6l := (StAt.ne st9 hq6).symm
  have q36 := ne_of_none (upd_same (a := q3)) hq6
  refine ⟨_, rfl, l, _, n + 2, rfl, by decide, by decide, st9.keep u6, by lia, fun v3 H9 v30 v31 st10 B9 => ?_⟩
  have h6 := B9 _ _ upd_same q6l
  have h39 := B9 _ _ (u6 _ _ upd_same) ql
  obtain ⟨m, rfl⟩ := Int.eq_ofNat_of_zero_le v30
  have m7 : m < 7 := by lia
  have fin : ∀ t H', H' = H9 → BadT t → Q (.str t) H' := fun t H' e h => by
    obtain ⟨xs, rfl, a1, a2, a3, a4⟩ := h
    subst e
    refine k xs _ a1 a2 a3 a4 st10 (B7.trans ?_)
    refine ((But.of (u3.trans u5)).upd ?_).trans ((But.of u6).trans B9)
    exact fun b u e _ => ne_of_none e n7
  rcases m with _ | _ | _ | _ | _ | _ | _ | m
  · exact ⟨q6, _, _, _, rfl, rfl, SqL.of h6, rfl, q3, _, _, _, rfl, rfl, SqL.of h39, rfl, fin _ _ rfl (bad _ (by simp))⟩
  · exact ⟨q6, _, _, _, rfl, rfl, SqL.of h6, rfl, q3, _, _, _, rfl, rfl, SqL.of h39, rfl, fin _ _ rfl (bad _ (by simp))⟩
  · exact ⟨q6, _, _, _, rfl, rfl, SqL.of h6, rfl, q3, _, _, _, rfl, rfl, SqL.of h39, rfl, fin _ _ rfl (bad _ (by simp))⟩
  · exact ⟨q6, _, _, _, rfl, rfl, SqL.of h6, rfl, q3, _, _, _, rfl, rfl, SqL.of h39, rfl, fin _ _ rfl (bad _ (by simp))⟩
  · exact ⟨q6, _, _, _, rfl, rfl, SqL.of h6, rfl, q3, _, _, _, rfl, rfl, SqL.of h39, rfl, fin _ _ rfl (bad _ (by simp))⟩
  · exact ⟨q6, _, _, _, rfl, rfl, SqL.of h6, rfl, q3, _, _, _, rfl, rfl, SqL.of h39, rfl, fin _ _ rfl (bad _ (by simp))⟩
  · exact ⟨q6, _, _, _, rfl, rfl, SqL.of h6, rfl, q3, _, _, _, rfl, rfl, SqL.of h39, rfl, fin _ _ rfl (bad _ (by simp))⟩
  · lia
end
end K76
end
section
set_option maxHeartbeats 4000001
namespace L2
open PySem
section
variable {K : PySem.W.Frag} {C : Addr} {b : Bool} {t c : Value} {cs : List Value} {T : String}
theorem kit_ty (h : (Value.ref C == Value.type T) = false) (m : PySem.W.kitMeta T = true) (s : PySem.W.mroIn K C (.type T) = some b) : PySem.W.kitOne K (.ref C) (.type T) = some b := by
  unfold PySem.W.kitOne
  rw [h]
  simp only [PySem.W.kitCls, m]
  exact s
theorem kitAny_no (h : PySem.W.kitOne K t c = some false) (r : PySem.W.kitAny K t cs = some false) : PySem.W.kitAny K t (c :: cs) = some false := by
  rw [PySem.W.kitAny, h]
  exact r
end
end L2
namespace Bn
open PySem
structure MgV (mg : Str → Option Value) : Prop where
  ve : mg "ValueError" = none
end Bn
end
section
set_option maxHeartbeats 4000001
namespace K76
open PySem L2 Own Bn
abbrev sLaw : Stmt := top 20
def spLaw (K : PySem.W.Frag) : Sp := fun vs H Q _ => ∃ (a : Addr) (ns : List Int), vs = [.ref a] ∧ SqL K H a (ns.map V.int) ∧ ns.length ≤ 63 ∧ ∀ H', Q (.bl true) H'
theorem fits_log {n : Int} (h : n.natAbs < 10 ^ 30) : n.natAbs.log2 < 1920 := by
  by_cases z : n.natAbs = 0
  · rw [z]; decide
  · exact (Nat.log2_lt z).mpr (Nat.lt_trans h (by decide +kernel))
def Ref (K : PySem.W.Frag) (H : Hp) (x : V) : Prop := (∃ x' t, [x] = [x'] ∧ TyOf K H x' t ∧ PySem.W.kitOne K t (.type "str") = some false) ∨ ∃ xs : List Wd, [x] = [.str (txtW xs)] ∧ xs ≠ [] ∧ xs.length ≤ 1000 ∧ (∀ x ∈ xs, OkW x) ∧ someBad xs = true
theorem ref_of {K : PySem.W.Frag} {H : Hp} {x : V} {t : Value} (h : TyOf K H x t) (e : PySem.W.kitOne K t (.type "str") = some false) : Ref K H x := .inl ⟨x, t, rfl, h, e⟩
theorem ref_one {K : PySem.W.Frag} {H : Hp} {z : Str} (h : OkW (.inr z)) : Ref K H (.str z) := .inr ⟨[.inr z], rfl, by simp, by show 1 ≤ 1000; decide, fun x hx => by rw [List.mem_singleton.mp hx]; exact h, rfl⟩
theorem ref_two {K : PySem.W.Frag} {H : Hp} : Ref K H (.str (Str.ofString ",")) := .inr ⟨[.inr Str.empty, .inr Str.empty], congrArg (fun z => [V.str z]) (by decide), by simp, by decide, fun x hx => by
  simp only [List.mem_cons, List.mem_nil_iff, or_false, or_self] at hx
  rw [hx]; exact bad_nil, rfl⟩
theorem str_eq {a b : Str} (h : a.cps.toList = b.cps.toList) : a = b := by
  cases a; cases b
  exact congrArg Str.mk (Array.toList_inj.mp h)
section
variable {P : Program} {w : World} {K : PySem.W.Frag} {mg : Str → Option Value} {base : Heap}
theorem scW : FnScope ["_law_script", "_law_state", "_law_thing", "_law_text", "_law_turn", "_law_counts", "_law_words"] ["_law_script"] (defScope sLaw) := ⟨rfl, rfl, rfl, by decide +kernel, rfl, by decide +kernel, by decide +kernel⟩
theorem ok_law {f fH fT fN fA fR fF fB : Addr} {fd dH dT dN dA dR dF dB : FuncData} (F : Fun K "law" "law" sLaw f fd) (G : Mgs mg) (UH : Use P w K mg base "_law_hand" ["_law_script"] 1 (spHand K) fH dH) (UT : Use P w K mg base "_law_take" ["_law_state", "_law_many"] 1 (spTake K) fT dT)
    (UNb : Use P w K mg base "_law_number" ["_law_state"] 2 (spNumber K) fN dN) (UA : Use P w K mg base "_law_alike" ["_law_found", "_law_due"] 2 (spAlike 1) fA dA) (URc : Use P w K mg base "read_counts" ["text"] 3 spReadG fR dR) (URf : Use P w K mg base "_law_refused" ["_law_thing"] 4 (spRefused K) fF dF) (UBd : Use P w K mg base "_law_bad" ["_law_state", "_law_words"] 2 (spBad K) fB dB) : FnOk P w K mg base CX0 5 f fd ["_law_script"] (spLaw K) := by
  refine F.ok scW (fun vs H Q E h => ?_) (fun cdv A outer s H vs Q E hr h => ?_)
  · obtain ⟨a, ns, rfl, _⟩ := h
    rfl
  obtain ⟨a, ns, rfl, hS, h63, k⟩ := h
  have hr1 : Room 1 _ := hr.mono (by decide)
  have hr2 : Room 2 _ := hr.mono (by decide)
  have hr3 : Room 3 _ := hr.mono (by decide)
  refine ⟨_, (@pss_cons _ _ _ _ _ (@ps_set _ _ 1 _ _ _ _ scW.nd rfl (Or.inr rfl) (@pe_call _ _ _ _ _ _ _ _ _ _ _ _ _ _ _ _ UH.ok hr1 (by rfl) UH.m UH.kp UH.b .nil pass0 (@pa_cons _ _ _ _ _ (@pv _ 0 _ _ (by rfl) (by first | exact Or.inl rfl | exact Or.inr (Or.inl rfl) | exact Or.inr (Or.inr rfl)) (by decide) (by decide)) pa_nil (by rfl)) (by decide) (by rfl) (by rfl)) (by rfl) (by first | exact .inl rfl | exact .inr rfl | assumption)) (@pss_cons _ _ _ _ _ (@ps_for _ _ _ _ _ _ _ _ PassesOwn.never rfl (@pi_list _ _ _ _ (@pe_lst _ _ _ _ (@pa_cons _ _ _ _ _ pe_str (@pa_cons _ _ _ _ _ pe_non (@pa_cons _ _ _ _ _ pe_int (@pa_cons _ _ _ _ _ pe_bl (@pa_cons _ _ _ _ _ (@pe_tup _ _ _ _ _ pa_nil) (@pa_cons _ _ _ _ _ (@pe_tup _ _ _ _ _ (@pa_cons _ _ _ _ _ pe_int (@pa_cons _ _ _ _ _ pe_int pa_nil (by rfl)) (by rfl))) (@pa_cons _ _ _ _ _ (@pe_lst _ _ _ _ (@pa_cons _ _ _ _ _ pe_int pa_nil (by rfl))) (@pa_cons _ _ _ _ _ pe_dnewK (@pa_cons _ _ _ _ _ pe_str (@pa_cons _ _ _ _ _ pe_str (@pa_cons _ _ _ _ _ pe_str (@pa_cons _ _ _ _ _ pe_str pa_nil (by rfl)) (by rfl)) (by rfl)) (by rfl)) (by rfl)) (by rfl)) (by rfl)) (by rfl)) (by rfl)) (by rfl)) (by rfl)) (by rfl)))) (@pg_name _ _ 2 _ scW.nd rfl (Or.inl rfl) (by first | exact .inl rfl | exact .inr rfl | assumption)) (@pss_one _ _ _ (@ps_if _ _ _ _ _ _ _ _ (@pt_not _ _ _ _ (@pt_truth _ _ _ (@pe_call _ _ _ _ _ _ _ _ _ _ _ _ _ _ _ _ URf.ok hr (by rfl) URf.m URf.kp URf.b .nil pass0 (@pa_cons _ _ _ _ _ (@pv _ 2 _ _ (by rfl) (by first | exact Or.inl rfl | exact Or.inr (Or.inl rfl) | exact Or.inr (Or.inr rfl)) (by decide) (by decide)) pa_nil (by rfl)) (by decide) (by rfl) (by rfl)) (fun _ => rfl))) (@pss_one _ _ _ (@ps_ret _ _ _ _ pe_bl)) pss_nil)) (by intro _; rfl)) (@pss_cons _ _ _ _ _ (@ps_for _ _ _ _ _ _ _ _ PassesOwn.never rfl (@pi_list _ _ _ _ (@pe_lst _ _ _ _ (@pa_cons _ _ _ _ _ (@pe_op _ _ _ _ _ _ _ _ op_repS pe_str pe_int) (@pa_cons _ _ _ _ _ (@pe_op _ _ _ _ _ _ _ _ op_add_str pe_str (@pe_op _ _ _ _ _ _ _ _ op_repS pe_str pe_int)) (@pa_cons _ _ _ _ _ pe_str pa_nil (by rfl)) (by rfl)) (by rfl)))) (@pg_name _ _ 3 _ scW.nd rfl (Or.inl rfl) (by first | exact .inl rfl | exact .inr rfl | assumption)) (@pss_one _ _ _ (@ps_if _ _ _ _ _ _ _ _ (@pt_not _ _ _ _ (@pt_truth _ _ _ (@pe_call _ _ _ _ _ _ _ _ _ _ _ _ _ _ _ _ UA.ok hr2 (by rfl) UA.m UA.kp UA.b .nil pass0 (@pa_cons _ _ _ _ _ (@pe_call _ _ _ _ _ _ _ _ _ _ _ _ _ _ _ _ URc.ok hr3 (by rfl) URc.m URc.kp URc.b .nil pass0 (@pa_cons _ _ _ _ _ (@pv _ 3 _ _ (by rfl) (by first | exact Or.inl rfl | exact Or.inr (Or.inl rfl) | exact Or.inr (Or.inr rfl)) (by decide) (by decide)) pa_nil (by rfl)) (by decide) (by rfl) (by rfl)) (@pa_cons _ _ _ _ _ (@pe_tup _ _ _ _ _ (@pa_cons _ _ _ _ _ (@pe_callTy _ _ _ _ _ _ _ _ _ call_intText (by rfl) G.int (by rfl) (@pa_cons _ _ _ _ _ (@pv _ 3 _ _ (by rfl) (by first | exact Or.inl rfl | exact Or.inr (Or.inl rfl) | exact Or.inr (Or.inr rfl)) (by decide) (by decide)) pa_nil (by rfl)) (by decide) (by decide) (by rfl) (by rfl)) pa_nil (by rfl))) pa_nil (by rfl)) (by rfl)) (by decide) (by rfl) (by rfl)) (fun _ => rfl))) (@pss_one _ _ _ (@ps_ret _ _ _ _ pe_bl)) pss_nil)) (by intro _; rfl)) (@pss_cons _ _ _ _ _ (@ps_for _ _ _ _ _ _ _ _ PassesOwn.never rfl (@pi_range1 _ _ _ _ _ _ rfl G.range (@pa_cons _ _ _ _ _ pe_int pa_nil (by rfl)) (by rfl)) (@pg_name _ _ 4 _ scW.nd rfl (Or.inl rfl) (by first | exact .inl rfl | exact .inr rfl | assumption)) (@pss_cons _ _ _ _ _ (@ps_set _ _ 5 _ _ _ _ scW.nd rfl (Or.inl rfl) (@pe_callTy _ _ _ _ _ _ _ _ _ call_tuple_of (by rfl) G.tuple (by rfl) (@pa_cons _ _ _ _ _ (@pe_lc _ _ _ _ none _ _ _ _ _ _ ["_law_k", "_law_state"] [none, some 1] rfl (@pi_range1 _ _ _ _ _ _ rfl G.range (@pa_cons _ _ _ _ _ (@pe_op _ _ _ _ _ _ _ _ op_add pe_int (@pe_call _ _ _ _ _ _ _ _ _ _ _ _ _ _ _ _ UT.ok hr1 (by rfl) UT.m UT.kp UT.b .nil pass0 (@pa_cons _ _ _ _ _ (@pv _ 1 _ _ (by rfl) (by first | exact Or.inl rfl | exact Or.inr (Or.inl rfl) | exact Or.inr (Or.inr rfl)) (by decide) (by decide)) (@pa_cons _ _ _ _ _ pe_int pa_nil (by rfl)) (by rfl)) (by decide) (by rfl) (by rfl))) pa_nil (by rfl)) (by rfl)) (CapOk.of (by kernel_rfl)) (fun _ _ _ _ _ => (@pg_name _ _ 0 _ (show (["_law_k", "_law_state"] : List Str).Nodup from by decide +kernel) rfl (Or.inl rfl) (Or.inr rfl))) (fun _ _ _ _ _ => pt_none) (fun _ _ _ _ _ => (@pe_call _ _ _ _ _ _ _ _ _ _ _ _ _ _ _ _ UNb.ok hr2 (by rfl) UNb.m UNb.kp UNb.b .nil pass0 (@pa_cons _ _ _ _ _ (@pv _ 1 _ _ (by rfl) (by first | exact Or.inl rfl | exact Or.inr (Or.inl rfl) | exact Or.inr (Or.inr rfl)) (by decide) (by decide)) pa_nil (by rfl)) (by decide) (by rfl) (by rfl))) (by intro _; rfl)) pa_nil (by rfl)) (by decide) (by decide) (by rfl) (by rfl)) (by rfl) (by first | exact .inl rfl | exact .inr rfl | assumption)) (@pss_cons _ _ _ _ _ (@ps_setLC _ 6 _ _ _ _ none _ _ _ _ _ _ _ _ ["_law_count"] [none] scW.nd rfl rfl rfl (@pi_tup _ _ _ _ (@pv _ 5 _ _ (by rfl) (by first | exact Or.inl rfl | exact Or.inr (Or.inl rfl) | exact Or.inr (Or.inr rfl)) (by decide) (by decide))) (CapOk.of (by kernel_rfl)) (fun _ _ _ _ _ => (@pg_name _ _ 0 _ (show (["_law_count"] : List Str).Nodup from by decide +kernel) rfl (Or.inl rfl) (Or.inr rfl))) (fun _ _ _ _ _ => pt_none) (fun _ _ _ _ _ => (@pe_callTy _ _ _ _ _ _ _ _ _ call_str_int (by rfl) G.str (by rfl) (@pa_cons _ _ _ _ _ (@pv _ 0 _ _ (by rfl) (by first | exact Or.inl rfl | exact Or.inr (Or.inl rfl) | exact Or.inr (Or.inr rfl)) (by decide) (by decide)) pa_nil (by rfl)) (by decide) (by decide) (by rfl) (by rfl))) (by intro _; rfl) (by with_unfolding_all rfl)) (@pss_cons _ _ _ _ _ (@ps_if _ _ _ _ _ _ _ _ (@pw_or _ _ _ _ _ _ _ (@pt_not _ _ _ _ (@pt_truth _ _ _ (@pe_call _ _ _ _ _ _ _ _ _ _ _ _ _ _ _ _ UA.ok hr2 (by rfl) UA.m UA.kp UA.b .nil pass0 (@pa_cons _ _ _ _ _ (@pe_call _ _ _ _ _ _ _ _ _ _ _ _ _ _ _ _ URc.ok hr3 (by rfl) URc.m URc.kp URc.b .nil pass0 (@pa_cons _ _ _ _ _ (@pe_bm _ _ _ _ _ _ _ _ _ _ _ _ PySem.F.plainAttrs_str PySem.F.slot_str_join PySem.F.type_str_join mt_join pe_str (@pa_cons _ _ _ _ _ (@pv _ 6 _ _ (by rfl) (by first | exact Or.inl rfl | exact Or.inr (Or.inl rfl) | exact Or.inr (Or.inr rfl)) (by decide) (by decide)) pa_nil (by rfl)) (by rfl) (by rfl) (by rfl) (by rfl) (by rfl)) pa_nil (by rfl)) (by decide) (by rfl) (by rfl)) (@pa_cons _ _ _ _ _ (@pv _ 5 _ _ (by rfl) (by first | exact Or.inl rfl | exact Or.inr (Or.inl rfl) | exact Or.inr (Or.inr rfl)) (by decide) (by decide)) pa_nil (by rfl)) (by rfl)) (by decide) (by rfl) (by rfl)) (fun _ => rfl))) (@pw_or1 _ _ _ _ (@pt_not _ _ _ _ (@pt_truth _ _ _ (@pe_call _ _ _ _ _ _ _ _ _ _ _ _ _ _ _ _ URf.ok hr (by rfl) URf.m URf.kp URf.b .nil pass0 (@pa_cons _ _ _ _ _ (@pe_call _ _ _ _ _ _ _ _ _ _ _ _ _ _ _ _ UBd.ok hr2 (by rfl) UBd.m UBd.kp UBd.b .nil pass0 (@pa_cons _ _ _ _ _ (@pv _ 1 _ _ (by rfl) (by first | exact Or.inl rfl | exact Or.inr (Or.inl rfl) | exact Or.inr (Or.inr rfl)) (by decide) (by decide)) (@pa_cons _ _ _ _ _ (@pv _ 6 _ _ (by rfl) (by first | exact Or.inl rfl | exact Or.inr (Or.inl rfl) | exact Or.inr (Or.inr rfl)) (by decide) (by decide)) pa_nil (by rfl)) (by rfl)) (by decide) (by rfl) (by rfl)) pa_nil (by rfl)) (by decide) (by rfl) (by rfl)) (fun _ => rfl))))).pt (@pss_one _ _ _ (@ps_ret _ _ _ _ pe_bl)) pss_nil) (@pss_one _ _ _ (@ps_if _ _ _ _ _ _ _ _ (@pw_or _ _ _ _ _ _ _ (@pt_not _ _ _ _ (@pt_truth _ _ _ (@pe_call _ _ _ _ _ _ _ _ _ _ _ _ _ _ _ _ URf.ok hr (by rfl) URf.m URf.kp URf.b .nil pass0 (@pa_cons _ _ _ _ _ (@pe_call _ _ _ _ _ _ _ _ _ _ _ _ _ _ _ _ UBd.ok hr2 (by rfl) UBd.m UBd.kp UBd.b .nil pass0 (@pa_cons _ _ _ _ _ (@pv _ 1 _ _ (by rfl) (by first | exact Or.inl rfl | exact Or.inr (Or.inl rfl) | exact Or.inr (Or.inr rfl)) (by decide) (by decide)) (@pa_cons _ _ _ _ _ (@pv _ 6 _ _ (by rfl) (by first | exact Or.inl rfl | exact Or.inr (Or.inl rfl) | exact Or.inr (Or.inr rfl)) (by decide) (by decide)) pa_nil (by rfl)) (by rfl)) (by decide) (by rfl) (by rfl)) pa_nil (by rfl)) (by decide) (by rfl) (by rfl)) (fun _ => rfl))) (@pw_or1 _ _ _ _ (@pt_not _ _ _ _ (@pt_truth _ _ _ (@pe_call _ _ _ _ _ _ _ _ _ _ _ _ _ _ _ _ UA.ok hr2 (by rfl) UA.m UA.kp UA.b .nil pass0 (@pa_cons _ _ _ _ _ (@pe_call _ _ _ _ _ _ _ _ _ _ _ _ _ _ _ _ URc.ok hr3 (by rfl) URc.m URc.kp URc.b .nil pass0 (@pa_cons _ _ _ _ _ (@pe_bm _ _ _ _ _ _ _ _ _ _ _ _ PySem.F.plainAttrs_str PySem.F.slot_str_join PySem.F.type_str_join mt_join pe_str (@pa_cons _ _ _ _ _ (@pv _ 6 _ _ (by rfl) (by first | exact Or.inl rfl | exact Or.inr (Or.inl rfl) | exact Or.inr (Or.inr rfl)) (by decide) (by decide)) pa_nil (by rfl)) (by rfl) (by rfl) (by rfl) (by rfl) (by rfl)) pa_nil (by rfl)) (by decide) (by rfl) (by rfl)) (@pa_cons _ _ _ _ _ (@pv _ 5 _ _ (by rfl) (by first | exact Or.inl rfl | exact Or.inr (Or.inl rfl) | exact Or.inr (Or.inr rfl)) (by decide) (by decide)) pa_nil (by rfl)) (by rfl)) (by decide) (by rfl) (by rfl)) (fun _ => rfl))))).pt (@pss_one _ _ _ (@ps_ret _ _ _ _ pe_bl)) pss_nil))))) (by intro _; rfl)) (@pss_one _ _ _ (@ps_ret _ _ _ _ pe_bl)))))), ?_⟩
  refine seq_lateR (fun D0 hD0 rD0 => ?_)
  refine ⟨_, rfl, a, ns, rfl, hS, h63, fun l H1 hl s1 S1 => hD0 _ _ ?_⟩
  clear hD0 rD0
  refine seq_lateR (fun Da hDa rDa => ?_)
  refine ⟨by show 0 ≤ sizeLine; decide, fun t0 ht0 => ⟨by show 2 ≤ sizeLine; decide, fun t1 ht1 => ⟨by show 1 ≤ sizeLine; decide, fun t2 ht2 => fun t3 ht3 => ⟨by show 12 ≤ sizeLine; decide, fun la hla => ?_⟩⟩⟩⟩
  have m3 := same_new hla (.lst [.str "", .non, .int 5, .bl true, .ref t0, .ref t1, .ref t2, .ref t3, .str "counts", .str "1 2", .str "-", .str ","])
  have m2 := (same_new ht3 (.dK [])).trans m3
  have m1 := (same_new ht2 (.lst [.int 1])).trans m2
  have m0 := (same_new ht1 (.tup [.int 1, .int 2])).trans m1
  have mS := (same_new ht0 (.tup [])).trans m0
  have e0 := m0 _ _ (upd_same (H := H1) (a := t0) (o := .tup []))
  have e1 := m1 _ _ (upd_same (a := t1) (o := .tup [.int 1, .int 2]))
  have e2 := m2 _ _ (upd_same (a := t2) (o := .lst [.int 1]))
  have e3 := m3 _ _ (upd_same (a := t3) (o := .dK []))
  have S2 := S1.keep mS
  refine ⟨la, rfl, ⟨_, SqL.of upd_same⟩, ?_⟩
  have hla2 := upd_same (H := L2.upd (L2.upd (L2.upd (L2.upd H1 t0 (.tup [])) t1 (.tup [.int 1, .int 2])) t2 (.lst [.int 1])) t3 (.dK [])) (a := la) (o := .lst [.str "", .non, .int 5, .bl true, .ref t0, .ref t1, .ref t2, .ref t3, .str "counts", .str "1 2", .str "-", .str ","])
  generalize L2.upd (L2.upd (L2.upd (L2.upd (L2.upd H1 t0 (.tup [])) t1 (.tup [.int 1, .int 2])) t2 (.lst [.int 1])) t3 (.dK [])) la (.lst [.str "", .non, .int 5, .bl true, .ref t0, .ref t1, .ref t2, .ref t3, .str "counts", .str "1 2", .str "-", .str ","]) = H2 at e0 e1 e2 e3 S2 hla2 ⊢
  clear m0 m1 m2 m3 mS ht0 ht1 ht2 ht3 hla
  refine for_list (K := K) (a := la) (xs := [.str "", .non, .int 5, .bl true, .ref t0, .ref t1, .ref t2, .ref t3, .str "counts", .str "1 2", .str "-", .str ","]) (fun i σ H3 => (∃ v2 v3 v4 v5 v6, σ = [some (.ref a), some (.ref l), v2, v3, v4, v5, v6]) ∧ Same H2 H3) ⟨⟨_, _, _, _, _, rfl⟩, Same.refl _⟩ (fun i σ H3 _ z => SqL.of (z.2 _ _ hla2)) ?_ ?_
  · rintro i x σ H3 hx ⟨⟨v2, v3, v4, v5, v6, rfl⟩, s3⟩
    have rf : Ref K H3 x := by
      have il : i < 12 := (List.getElem?_eq_some_iff.mp hx).1
      rcases i with _ | _ | _ | _ | _ | _ | _ | _ | _ | _ | _ | _ | i
      · cases hx; exact ref_one ⟨by decide, by decide, by decide, by decide⟩
      · cases hx; exact ref_of .non rfl
      · cases hx; exact ref_of (.int _) rfl
      · cases hx; exact ref_of (.bl _) rfl
      · cases hx; exact ref_of (.tup (s3 _ _ e0)) rfl
      · cases hx; exact ref_of (.tup (s3 _ _ e1)) rfl
      · cases hx; exact ref_of (.lst (s3 _ _ e2)) rfl
      · cases hx; exact ref_of (.dK (s3 _ _ e3)) rfl
      · cases hx; exact ref_one ⟨by decide, by decide, by decide, by decide⟩
      · cases hx; exact ref_one ⟨by decide, by decide, by decide, by decide⟩
      · cases hx; exact ref_one ⟨by decide, by decide, by decide, by decide⟩
      · cases hx; exact ref_two
      · lia
    exact ⟨_, rfl, rf, fun H4 s4 => ⟨true, rfl, iteF ⟨⟨_, _, _, _, _, rfl⟩, s3.trans s4⟩⟩⟩
  rintro σ H3 ⟨⟨v2, v3, v4, v5, v6, rfl⟩, s3⟩
  refine hDa _ _ ?_
  clear hDa rDa
  have S3 := S2.keep s3
  clear S2 s3 e0 e1 e2 e3 hla2
  refine seq_lateR (fun Db hDb rDb => ?_)
  refine ⟨57, 30, congrArg V.str (by decide), rfl, by decide, by decide, fun z1 hz1 => ⟨57, 30, congrArg V.str (by decide), rfl, by decide, by decide, fun z2 hz2 => ?_⟩⟩
  have q1 : z1 = txt (10 ^ 30 - 1) := str_eq (by rw [hz1]; decide +kernel)
  have q2 : Str.ofString "-" ++ z2 = txt (1 - 10 ^ 30) := str_eq (by rw [Str.cps_append, Array.toList_append, hz2]; decide +kernel)
  have z2l : z2.length = 30 := by show z2.cps.size = 30; rw [← Array.length_toList, hz2]; rfl
  refine ⟨_, _, rfl, rfl, by rw [z2l, sizeLine_eq]; decide, by show 3 ≤ sizeLine; decide, fun la hla => ?_⟩
  rw [q1, q2]
  have s4 := same_new hla (.lst [.str (txt (10 ^ 30 - 1)), .str (txt (1 - 10 ^ 30)), .str (Str.ofString "0")])
  have hla4 := upd_same (H := H3) (a := la) (o := .lst [.str (txt (10 ^ 30 - 1)), .str (txt (1 - 10 ^ 30)), .str (Str.ofString "0")])
  have S4 := S3.keep s4
  refine ⟨la, rfl, ⟨_, SqL.of upd_same⟩, ?_⟩
  generalize L2.upd H3 la (.lst [.str (txt (10 ^ 30 - 1)), .str (txt (1 - 10 ^ 30)), .str (Str.ofString "0")]) = H4 at hla4 S4 ⊢
  clear s4
  refine for_list (K := K) (a := la) (xs := [.str (txt (10 ^ 30 - 1)), .str (txt (1 - 10 ^ 30)), .str (Str.ofString "0")]) (fun i σ H5 => (∃ v2 v3 v4 v5 v6, σ = [some (.ref a), some (.ref l), v2, v3, v4, v5, v6]) ∧ Same H4 H5) ⟨⟨_, _, _, _, _, rfl⟩, Same.refl _⟩ (fun i σ H3 _ z => SqL.of (z.2 _ _ hla4)) ?_ ?_
  · rintro i x σ H5 hx ⟨⟨v2, v3, v4, v5, v6, rfl⟩, s5⟩
    obtain ⟨n, rfl, nb⟩ : ∃ n : Int, x = .str (txt n) ∧ n.natAbs < 10 ^ 30 := by
      have il : i < 3 := (List.getElem?_eq_some_iff.mp hx).1
      rcases i with _ | _ | _ | i
      · cases hx; exact ⟨_, rfl, by decide +kernel⟩
      · cases hx; exact ⟨_, rfl, by decide +kernel⟩
      · cases hx; exact ⟨0, rfl, by decide +kernel⟩
      · lia
    refine ⟨_, rfl, [.inl n], rfl, by simp, by show 1 ≤ 1000; decide, fun y hy => (by rw [List.mem_singleton.mp hy]; exact nb), rfl, fun p H6 s6 hp => ?_⟩
    refine ⟨_, rfl, _, n, rfl, txt_reads nb, Nat.le_trans (txt_len nb).2 (by decide), by show 1 ≤ sizeLine; decide, fun q hq => ?_⟩
    have s7 := same_new hq (.tup [.int n])
    refine ⟨_, _, rfl, eq3_ints (xs := [n]) (s7 _ _ hp) upd_same (by show 1 ≤ 1000; decide), fun H8 s8 => ⟨true, rfl, iteF ⟨⟨_, _, _, _, _, rfl⟩, ((s5.trans s6).trans s7).trans s8⟩⟩⟩
  rintro σ H5 ⟨⟨v2, v3, v4, v5, v6, rfl⟩, s5⟩
  refine hDb _ _ ?_
  clear hDb rDb
  have S5 := S4.keep s5
  clear S4 S3 s5 hla4
  refine seq_lateR (fun Dc hDc rDc => ?_)
  refine ⟨_, rfl, by decide, by decide, ?_⟩
  refine for_range (lo := 0) (n := (12 : Int).toNat) (fun i σ H2 => (∃ v2 v3 v4 v5 v6, σ = [some (.ref a), some (.ref l), v2, v3, v4, v5, v6]) ∧ StAt H2 l (100 * i)) ⟨⟨_, _, _, _, _, rfl⟩, S5⟩ ?_ (fun σ H2 _ => hDc _ _ (k H2))
  clear hDc rDc S5
  rintro i σ H2 hi ⟨⟨v2, v3, v4, v5, v6, rfl⟩, S2⟩
  have i20 : i < 12 := hi
  refine seq_lateR (fun Dd hDd rDd => ?_)
  refine ⟨_, rfl, l, 16, _, rfl, by decide, by decide, S2, by lia, fun v H3 v0 v1 S3 B3 => ⟨_, _, rfl, rfl, ?_⟩⟩
  obtain ⟨v, rfl⟩ := Int.eq_ofNat_of_zero_le v0
  refine ⟨_, rfl, by lia, by lia, fun lq hlq => ?_⟩
  have nlq := S3.ne hlq
  refine lc_range (lo := 0) (n := ((1 : Int) + (v : Nat)).toNat) (fun j acc σ H4 => (∃ v, σ = [v, some (.ref l)]) ∧ H4 lq = some (.lst acc) ∧ StAt H4 l (100 * i + 1 + 4 * j) ∧ ∃ xs : List Int, acc = xs.map V.int ∧ xs.length = j ∧ ∀ x ∈ xs, x.natAbs < 10 ^ 30) ⟨⟨_, rfl⟩, upd_same, S3.upd nlq, [], rfl, rfl, fun x hx => by simp at hx⟩ (fun j acc σ H4 q => q.2.1) ?_ ?_
  · rintro j acc σ H4 hj ⟨⟨v, rfl⟩, h4, S4, xs, rfl, xl, small⟩
    have jm : j < 16 := by lia
    refine ⟨_, rfl, l, _, rfl, S4, by lia, fun x H5 xb S5 B5 => ?_⟩
    refine ⟨B5 _ _ h4 nlq.symm, by rw [List.length_map, sizeLine_eq]; lia, nx (by lia) ⟨⟨_, rfl⟩, upd_same, (S5.upd nlq).mono (by lia), xs ++ [x], by rw [List.map_append]; rfl, by simp [xl], fun y hy => ?_⟩⟩
    cases List.mem_append.mp hy with
    | inl q => exact small y q
    | inr q => rw [List.mem_singleton.mp q]; exact xb
  rintro acc σ H4 ⟨⟨v', rfl⟩, h4, S4, xs, rfl, xl, small⟩
  have x1 : 1 ≤ xs.length := by lia
  have x16 : xs.length ≤ 16 := by lia
  refine ⟨lq, _, rfl, .inl ⟨SqL.of h4, fun c hc => hDd _ _ ?_⟩⟩
  clear hDd rDd
  have s5 := same_new hc (.tup (xs.map V.int))
  have hc5 : L2.upd H4 c (.tup (xs.map V.int)) c = some (.tup (xs.map V.int)) := upd_same
  have S5 : StAt (L2.upd H4 c (.tup (xs.map V.int))) l (100 * i + 70) := (S4.keep s5).mono (by lia)
  generalize L2.upd H4 c (.tup (xs.map V.int)) = H5 at hc5 S5 ⊢
  clear s5 hc S4 h4 S3 B3 nlq hlq
  refine seq_lateR (fun De hDe rDe => ?_)
  refine ⟨_, rfl, c, rfl, ⟨_, SqT.of hc5⟩, fun lz hlz => ?_⟩
  refine lc_tup (K := K) (a := c) (xs := xs.map V.int) (fun j acc σ H6 => (∃ v, σ = [v]) ∧ Same H5 H6 ∧ H6 lz = some (.lst acc) ∧ acc = (xs.take j).map fun x => V.str (txt x)) ⟨⟨_, rfl⟩, same_new hlz _, upd_same, by rw [List.take_zero]; rfl⟩ (fun j acc σ H6 q => ⟨q.2.2.1, SqT.of (q.2.1 _ _ hc5)⟩) ?_ ?_
  · rintro j x acc σ H6 hx ⟨⟨v, rfl⟩, s6, h6, rfl⟩
    have jl : j < xs.length := by have := (List.getElem?_eq_some_iff.mp hx).1; rwa [List.length_map] at this
    rw [List.getElem?_map, List.getElem?_eq_getElem jl] at hx
    cases hx
    refine ⟨_, rfl, xs[j], rfl, fits_log (small _ (List.getElem_mem jl)), h6, by rw [List.length_map, List.length_take, sizeLine_eq]; lia, nx (by rw [List.length_map]; exact jl) ⟨⟨_, rfl⟩, fun b o e => ?_, upd_same, ?_⟩⟩
    · rw [upd_ne (ne_of_none e hlz)]; exact s6 b o e
    · rw [List.take_succ_eq_append_getElem jl, List.map_append]; rfl
  rintro acc σ H6 ⟨⟨v'', rfl⟩, s6, h6, rfl⟩
  rw [List.length_map, List.take_length] at h6
  refine hDe _ _ ?_
  clear hDe rDe
  have hc6 := s6 _ _ hc5
  have S6 := S5.keep s6
  have lzl : l ≠ lz := S5.ne hlz
  clear s6 S5 hc5 hlz
  have x0 : xs ≠ [] := fun z => by rw [z] at x1; exact absurd x1 (by decide)
  have wl : ∀ y ∈ xs.map txt, y.length ≤ 1000 := fun y hy => by
    obtain ⟨x, hx, rfl⟩ := List.mem_map.mp hy
    exact Nat.le_trans (txt_len (small x hx)).2 (by decide)
  have jo : JoinOk (Str.ofString ",") (xs.map txt) = true := join_W (by decide) (by rw [List.length_map]; lia) wl
  have et : Txt.join (Str.ofString ",") (xs.map txt) = txtW (numW xs) := by unfold txtW; rw [numW_T]
  have ev : (numW xs).map wdV = xs.map V.int := by unfold numW; rw [List.map_map]; rfl
  have sb : someBad (numW xs) = false := by
    unfold someBad numW
    rw [List.any_map]
    exact List.any_eq_false.mpr fun x _ => by simp
  have nn : numW xs ≠ [] := fun z => x0 (List.map_eq_nil_iff.mp z)
  have nl : (numW xs).length ≤ 1000 := by unfold numW; rw [List.length_map]; lia
  have h6' : H6 lz = some (.lst ((xs.map txt).map V.str)) := by rw [List.map_map]; exact h6
  clear h6
  refine seq_lateR (fun Df hDf rDf => ?_)
  refine ⟨rfl, _, rfl, _, lz, xs.map txt, rfl, rfl, SqL.of h6', jo, numW xs, congrArg (fun z => [V.str z]) et, nn, nl, numW_ok small, sb, fun p H7 s7 hp => ?_⟩
  rw [ev] at hp
  refine ⟨_, rfl, _, _, rfl, eq3_ints hp (s7 _ _ hc6) (by lia), fun H8 s8 => ⟨true, rfl, iteF ?_⟩⟩
  have s68 := s7.trans s8
  refine ⟨_, rfl, _, rfl, l, lz, _, xs, rfl, S6.keep s68, by lia, lzl, by have := s68 _ _ h6'; rw [List.map_map] at this; exact this, x1, x16, small, fun ys H9 y0 yl yok ysb S9 B9 => ⟨.inr ⟨ys, rfl, y0, yl, yok, ysb⟩, fun H10 s10 => ⟨true, rfl, iteF (hDf _ _ ?_)⟩⟩⟩
  clear hDf rDf
  have h10 : H10 lz = some (.lst ((xs.map txt).map V.str)) := s10 _ _ (B9 _ _ (s68 _ _ h6') lzl.symm)
  have c10 := s10 _ _ ((tups_but B9 (S6.keep s68)) _ _ (s68 _ _ hc6))
  have S10 := S9.keep s10
  clear S9 B9 s10 s68 s7 s8 hp S6 hc6 h6'
  refine ⟨_, rfl, _, rfl, l, lz, _, xs, rfl, S10, by lia, lzl, by rw [List.map_map] at h10; exact h10, x1, x16, small, fun zs H11 z0 zl zok zsb S11 B11 => ⟨.inr ⟨zs, rfl, z0, zl, zok, zsb⟩, fun H12 s12 => ⟨true, rfl, iteF ?_⟩⟩⟩
  have h12 := s12 _ _ (B11 _ _ h10 lzl.symm)
  have c12 := s12 _ _ ((tups_but B11 S10) _ _ c10)
  refine ⟨rfl, _, rfl, _, lz, xs.map txt, rfl, rfl, SqL.of h12, jo, numW xs, congrArg (fun z => [V.str z]) et, nn, nl, numW_ok small, sb, fun p H13 s13 hp => ?_⟩
  rw [ev] at hp
  exact ⟨_, rfl, _, _, rfl, eq3_ints hp (s13 _ _ c12) (by lia), fun H14 s14 => ⟨true, rfl, iteF ⟨⟨_, _, _, _, _, rfl⟩, (((S11.keep s12).keep s13).keep s14).mono (by lia)⟩⟩⟩
end
end K76
end
namespace K76
open PySem L2 Own Bn
structure FnAt (K : PySem.W.Frag) (x : Str) (st : Stmt) (f : Addr) (fd : FuncData) : Prop where
  ns : PySem.W.nsIn K mainGlobals x = some (some (.ref f))
  fn : Fun K x x st f fd
theorem fn_at {K : PySem.W.Frag} {x : Str} {st : Stmt} {f : Addr} {oc : Value} {od an : Option Addr} {osl : Array (Option Value)} {kV doc pm cdv ct : Value} (a : PySem.W.nsIn K mainGlobals x = some (some (.ref f)))
    (l : K.lookup f = some ⟨oc, od, .func (PySem.W.fnOf x x (defArgs st) (defBody st) (defScope st) .none kV doc pm an cdv ct), osl⟩) (c : PySem.W.codeIn K cdv x = true) (k : PySem.W.keepIn K (.ref f) = true) : FnAt K x st f (PySem.W.fnOf x x (defArgs st) (defBody st) (defScope st) .none kV doc pm an cdv ct) := ⟨a, fun_mk l c k⟩
structure InitAt (K : PySem.W.Frag) (q : Str) (st : Stmt) (f : Addr) (fd : FuncData) : Prop where
  fn : Fun K "__init__" q st f fd
  fl : ∃ oI, K.lookup f = some oI ∧ oI.cls = .type "function"
theorem init_at {K : PySem.W.Frag} {q : Str} {st : Stmt} {f : Addr} {od an : Option Addr} {osl : Array (Option Value)} {kV doc pm cdv ct : Value} (l : K.lookup f = some ⟨.type "function", od, .func (PySem.W.fnOf "__init__" q (defArgs st) (defBody st) (defScope st) .none kV doc pm an cdv ct), osl⟩) (c : PySem.W.codeIn K cdv q = true) (k : PySem.W.keepIn K (.ref f) = true) : InitAt K q st f (PySem.W.fnOf "__init__" q (defArgs st) (defBody st) (defScope st) .none kV doc pm an cdv ct) := ⟨fun_mk (st := st) l c k, _, l, rfl⟩
theorem us1 {us : List Value} (h : us.length = 1) : ∃ u0, us = [u0] := by
  match us, h with
  | [u0], _ => exact ⟨u0, rfl⟩
theorem us2 {us : List Value} (h : us.length = 2) : ∃ u0 u1, us = [u0, u1] := by
  match us, h with
  | [u0, u1], _ => exact ⟨u0, u1, rfl⟩
set_option maxHeartbeats 4000001 in
theorem all_mk {l : PySem.W.OpenLaw} {w : World} {K : PySem.W.Frag} {h : Heap} {mg : Str → Option Value} {fa f1 f2 f3 f4 f5 f6 f7 f8 f9 f10 : Addr} {d1 d2 d3 d4 d5 d6 d7 d8 d9 d10 : FuncData} (X : K.In h) (G : h.Ns mainGlobals mg) (hfa : mg "law" = some (.ref fa))
    (A1 : FnAt K "_law_hand" sHand f1 d1)
    (A2 : FnAt K "_law_take" sTake f2 d2)
    (A3 : FnAt K "_law_number" sNumber f3 d3)
    (A4 : FnAt K "number_in" sNumIn f4 d4)
    (A5 : FnAt K "numbers_in" sNumsIn f5 d5)
    (A6 : FnAt K "read_counts" sReadC f6 d6)
    (A7 : FnAt K "_law_alike" sAlike f7 d7)
    (A8 : FnAt K "_law_refused" sRef f8 d8)
    (A9 : FnAt K "_law_bad" sBad f9 d9)
    (A10 : FnAt K "law" sLaw f10 d10)
    (z1 : PySem.W.nsIn K mainGlobals "len" = some none)
    (z2 : PySem.W.nsIn K mainGlobals "range" = some none)
    (z3 : PySem.W.nsIn K mainGlobals "tuple" = some none)
    (z4 : PySem.W.nsIn K mainGlobals "enumerate" = some none)
    (z5 : PySem.W.nsIn K mainGlobals "abs" = some none)
    (z6 : PySem.W.nsIn K mainGlobals "zip" = some none)
    (z7 : PySem.W.nsIn K mainGlobals "isinstance" = some none)
    (z8 : PySem.W.nsIn K mainGlobals "all" = some none)
    (z9 : PySem.W.nsIn K mainGlobals "sum" = some none)
    (z10 : PySem.W.nsIn K mainGlobals "bool" = some none)
    (z11 : PySem.W.nsIn K mainGlobals "int" = some none)
    (z12 : PySem.W.nsIn K mainGlobals "str" = some none)
    (z13 : PySem.W.nsIn K mainGlobals "max" = some none)
    (z14 : PySem.W.nsIn K mainGlobals "min" = some none)
    (z15 : PySem.W.nsIn K mainGlobals "sorted" = some none)
    (z16 : PySem.W.nsIn K mainGlobals "list" = some none)
    (z17 : PySem.W.nsIn K mainGlobals "ValueError" = some none)
    {tk0 : Tok} (zk0 : PySem.W.nsIn K mainGlobals "MOST_FIGURES" = some (some (.int 30 tk0)))
    {tk1 : Tok} (zk1 : PySem.W.nsIn K mainGlobals "FIGURES" = some (some (.str (Str.ofString "0123456789") tk1)))
    {CL CG CD CO CN CE fI NG : Addr} {dI : FuncData} {xa xb : Str} {bsG subG : List Value} {snG : List Str} {abG : Bool} {colG : Option Bool} {ddG : Option Addr} {g0 g1 g2 g3 g5 : Option Value}
    (aL : PySem.W.nsIn K mainGlobals "LaneError" = some (some (.ref CL))) (aG : PySem.W.nsIn K mainGlobals "NoText" = some (some (.ref CG))) (aD : PySem.W.nsIn K mainGlobals "NoDeed" = some (some (.ref CD))) (aO : PySem.W.nsIn K mainGlobals "NoGroup" = some (some (.ref CO))) (aN : PySem.W.nsIn K mainGlobals "NoLine" = some (some (.ref CN))) (aE : PySem.W.nsIn K mainGlobals "NotEven" = some (some (.ref CE)))
    (lG : K.lookup CG = some (excClassObj xa xb CG NG bsG (.ref CL :: bmV) true snG subG abG colG ddG g0 g1 g2 g3 g5 "ValueError.__new__")) {oN oM : Obj} {cL cD cO cN cE : ClassData} (lN : K.lookup NG = some oN) (uN : PySem.W.nsOkIn [(NG, oN)] NG = true) (iG : PySem.W.nsIn K NG "__init__" = some (some (.ref fI)))
    (AI : InitAt K "NoText.__init__" sXInit fI dI) (cCL : PySem.W.clsIn K CL = some cL) (lM : K.lookup cL.ns = some oM) (uM : PySem.W.nsOkIn [(cL.ns, oM)] cL.ns = true) (iM : PySem.W.nsIn K cL.ns "__init__" = some none) (seG : PySem.W.findIn K (.ref CG) "__setattr__" = some (some (.builtin "object.__setattr__"))) (kpG : PySem.W.keepIn K (.ref CG) = true)
    (spL : PySem.W.specialIn K (.ref CL) "__getattribute__" = some (some (.builtin "type.__getattribute__"))) (rdL : PySem.W.readsIn K CL (.type "type") = true) (fdL : PySem.W.findCls K (.ref CL) (.type "type") "__init__" = some (.val (.builtin "ValueError.__init__")))
    (x1 : PySem.W.findIn K (.ref CG) "__getattribute__" = some (some (.builtin "BaseException.__getattribute__"))) (x2 : PySem.W.findIn K (.ref CG) "__getattr__" = some none) (x3 : PySem.W.mroIn K CG (.type "BaseException") = some true) (x4 : PySem.W.mroIn K CG (.type "object") = some true) (x5 : PySem.W.findIn K (.ref CG) "__class__" = some (some (.builtin "object.__class__")))
    (x6 : PySem.W.specialIn K (.builtin "object.__class__") "__get__" = some (some (.builtin "getset_descriptor.__get__"))) (x7 : PySem.W.takesIn K (.builtin "object.__class__") = some true) (x8 : PySem.W.hasDictIn K CG = true)
    (y1 : PySem.W.mroIn K CL (.type "BaseException") = some true) (y2 : PySem.W.typeIn K (.ref CL) = some (.type "type")) (y3 : PySem.W.mroIn K CG (.ref CL) = some true) (y4 : (Value.ref CG == Value.ref CG) = true) (y5D : (Value.ref CG == Value.ref CD) = false) (cCD : PySem.W.clsIn K CD = some cD) (y6D : PySem.W.typeIn K (.ref CD) = some (.type "type")) (y7D : PySem.W.mroIn K CG (.ref CD) = some false) (y5O : (Value.ref CG == Value.ref CO) = false) (cCO : PySem.W.clsIn K CO = some cO) (y6O : PySem.W.typeIn K (.ref CO) = some (.type "type")) (y7O : PySem.W.mroIn K CG (.ref CO) = some false) (y5N : (Value.ref CG == Value.ref CN) = false) (cCN : PySem.W.clsIn K CN = some cN) (y6N : PySem.W.typeIn K (.ref CN) = some (.type "type")) (y7N : PySem.W.mroIn K CG (.ref CN) = some false) (y5E : (Value.ref CG == Value.ref CE) = false) (cCE : PySem.W.clsIn K CE = some cE) (y6E : PySem.W.typeIn K (.ref CE) = some (.type "type")) (y7E : PySem.W.mroIn K CG (.ref CE) = some false) (y8 : (Value.ref CG == Value.type "ValueError") = false) (y9 : PySem.W.kitMeta "ValueError" = true) (y0 : PySem.W.mroIn K CG (.type "ValueError") = some true) (nap : PySem.W.findIn K (.ref CG) "row" = some none)
    : ∃ fd : FuncData, (∀ (s : Shared) (v : Value), BindsTo s fd ⟨[v], []⟩ [("_law_script", v)]) ∧ ∀ base : Heap, K.In base → base.Ns mainGlobals mg → FnOk l.prog w K mg base CX0 5 fa fd ["_law_script"] (spLaw K) := by
  have e := hfa.symm.trans (PySem.W.mg_of X G A10.ns)
  cases e
  have M : Mgs mg := ⟨PySem.W.mg_none_of X G z1, PySem.W.mg_none_of X G z2, PySem.W.mg_none_of X G z3, PySem.W.mg_none_of X G z4, PySem.W.mg_none_of X G z5, PySem.W.mg_none_of X G z6, PySem.W.mg_none_of X G z7, PySem.W.mg_none_of X G z8, PySem.W.mg_none_of X G z9, PySem.W.mg_none_of X G z10, PySem.W.mg_none_of X G z11, PySem.W.mg_none_of X G z12, PySem.W.mg_none_of X G z13, PySem.W.mg_none_of X G z14, PySem.W.mg_none_of X G z15, PySem.W.mg_none_of X G z16⟩
  have M2 : MgV mg := ⟨PySem.W.mg_none_of X G z17⟩
  have kc0 := PySem.W.mg_of X G zk0
  have kc1 := PySem.W.mg_of X G zk1
  have b1 := A1.fn.binds (ps := ["_law_script"]) fun _ _ _ _ _ _ us hl => by obtain ⟨u0, rfl⟩ := us1 hl; rfl
  have m1 := PySem.W.mg_of X G A1.ns
  have b2 := A2.fn.binds (ps := ["_law_state", "_law_many"]) fun _ _ _ _ _ _ us hl => by obtain ⟨u0, u1, rfl⟩ := us2 hl; rfl
  have m2 := PySem.W.mg_of X G A2.ns
  have b3 := A3.fn.binds (ps := ["_law_state"]) fun _ _ _ _ _ _ us hl => by obtain ⟨u0, rfl⟩ := us1 hl; rfl
  have m3 := PySem.W.mg_of X G A3.ns
  have b4 := A4.fn.binds (ps := ["word"]) fun _ _ _ _ _ _ us hl => by obtain ⟨u0, rfl⟩ := us1 hl; rfl
  have m4 := PySem.W.mg_of X G A4.ns
  have b5 := A5.fn.binds (ps := ["words"]) fun _ _ _ _ _ _ us hl => by obtain ⟨u0, rfl⟩ := us1 hl; rfl
  have m5 := PySem.W.mg_of X G A5.ns
  have b6 := A6.fn.binds (ps := ["text"]) fun _ _ _ _ _ _ us hl => by obtain ⟨u0, rfl⟩ := us1 hl; rfl
  have m6 := PySem.W.mg_of X G A6.ns
  have b7 := A7.fn.binds (ps := ["_law_found", "_law_due"]) fun _ _ _ _ _ _ us hl => by obtain ⟨u0, u1, rfl⟩ := us2 hl; rfl
  have m7 := PySem.W.mg_of X G A7.ns
  have b8 := A8.fn.binds (ps := ["_law_thing"]) fun _ _ _ _ _ _ us hl => by obtain ⟨u0, rfl⟩ := us1 hl; rfl
  have m8 := PySem.W.mg_of X G A8.ns
  have b9 := A9.fn.binds (ps := ["_law_state", "_law_words"]) fun _ _ _ _ _ _ us hl => by obtain ⟨u0, u1, rfl⟩ := us2 hl; rfl
  have m9 := PySem.W.mg_of X G A9.ns
  have mL := PySem.W.mg_of X G aL
  have mG := PySem.W.mg_of X G aG
  have mD := PySem.W.mg_of X G aD
  have mO := PySem.W.mg_of X G aO
  have mN := PySem.W.mg_of X G aN
  have mE := PySem.W.mg_of X G aE
  have XO : XOwn K CG CL fI := ⟨⟨_, _, _, _, _, _, _, _, _, _, _, _, _, _, lG, nsOk_of lN uN, iG⟩, tail_own cCL (nsOk_of lM uM) iM, AI.fl, seG, kpG⟩
  have XB : XBase K CL := ⟨spL, rdL, fdL⟩
  have XI : XIs K CG := ⟨x1, x2, x3, x4, x5, x6, x7, x8⟩
  have xm := exm_own y1 cCL y2 y3
  have kg := kit_same (K := K) y4
  have ka := kitAny_no (kit_other y5D cCD y6D y7D) (kitAny_no (kit_other y5O cCO y6O y7O) (kitAny_no (kit_other y5N cCN y6N y7N) (kitAny_no (kit_other y5E cCE y6E y7E) (show PySem.W.kitAny K (.ref CG) [] = some false from rfl))))
  have kv := kit_ty y8 y9 y0
  have bI := AI.fn.binds (ps := ["self", "row"]) fun _ _ _ _ _ _ us hl => by obtain ⟨u0, u1, rfl⟩ := us2 hl; rfl
  obtain ⟨oc, od, kV, doc, pm, an, cdv, ct, osl, ed, _, _⟩ := id A10.fn.ex
  refine ⟨d10, fun s v => by rw [ed]; exact .of_eq rfl, fun base _ _ => ?_⟩
  have U1 : Use l.prog w K mg base "_law_hand" ["_law_script"] 1 (spHand K) f1 d1 := ⟨ok_hand A1.fn M, b1, A1.fn.kp, m1⟩
  have U2 : Use l.prog w K mg base "_law_take" ["_law_state", "_law_many"] 1 (spTake K) f2 d2 := ⟨ok_take A2.fn, b2, A2.fn.kp, m2⟩
  have U3 : Use l.prog w K mg base "_law_number" ["_law_state"] 2 (spNumber K) f3 d3 := ⟨ok_number A3.fn U2, b3, A3.fn.kp, m3⟩
  have U4 : Use l.prog w K mg base "number_in" ["word"] 1 spNumW f4 d4 := ⟨ok_numw A4.fn M kc0 kc1, b4, A4.fn.kp, m4⟩
  have U5 : Use l.prog w K mg base "numbers_in" ["words"] 2 spNumsW f5 d5 := ⟨ok_numsw A5.fn M U4, b5, A5.fn.kp, m5⟩
  have U6 : Use l.prog w K mg base "read_counts" ["text"] 3 spReadG f6 d6 := ⟨ok_readg A6.fn M U5, b6, A6.fn.kp, m6⟩
  have U7 : Use l.prog w K mg base "_law_alike" ["_law_found", "_law_due"] 2 (spAlike 1) f7 d7 := ⟨ok_alike A7.fn M b7 m7 1, b7, A7.fn.kp, m7⟩
  have U7_z : Use l.prog w K mg base "_law_alike" ["_law_found", "_law_due"] 1 (spAlike 0) f7 d7 := ⟨ok_alike A7.fn M b7 m7 0, b7, A7.fn.kp, m7⟩
  have U8 : Use l.prog w K mg base "_law_refused" ["_law_thing"] 4 (spRefused K) f8 d8 := ⟨ok_refused A8.fn M (ok_readx A6.fn M U5 XO (ok_xinit AI.fn XB XO mL nap) bI mG) b6 A6.fn.kp m6 U7_z mL M2.ve mD mO mN mE mG XI xm kv ka kg nap, b8, A8.fn.kp, m8⟩
  have U9 : Use l.prog w K mg base "_law_bad" ["_law_state", "_law_words"] 2 (spBad K) f9 d9 := ⟨ok_bad A9.fn M U2, b9, A9.fn.kp, m9⟩
  exact ok_law A10.fn M U1 U2 U3 U7 U6 U8 U9
theorem walk {l : PySem.W.OpenLaw} {q : Program} {loose : List Str} {XP : (Str → Option Value) → Heap → Prop} {YP : World → Heap → Prop} {d : DefRec} {K : Params → PySem.W.Frag} (hn : l.most = some 63) (hdf : d.params.defaults = [])
    (hY : ∀ (w : World) (h : Heap), YP w h → (K w.params).In h)
    (F : ∀ (w : World) (mg : Str → Option Value) (fa : Addr) (h : Heap), (K w.params).In h → h.Ns mainGlobals mg → mg d.name = some (.ref fa) →
      ∃ fd : FuncData, (∀ (s : Shared) (u : Value), BindsTo s fd ⟨[u], []⟩ [("_law_script", u)]) ∧ ∀ base : Heap, (K w.params).In base → base.Ns mainGlobals mg → FnOk l.prog w (K w.params) mg base CX0 5 fa fd ["_law_script"] (spLaw (K w.params))) :
    PySem.W.WalkO q loose XP YP l.row.toRowW d [] (fun f vs => PySem.call f vs) :=
  L2.walk_ofK (n := 63) (k := 5) (x := "_law_script") (CX := CX0) (sp := spLaw) hn (by decide) hdf ⟨rfl, by decide, by decide, rfl⟩ hY F (fun _ _ a ns hl _ hS => ⟨a, ns, rfl, hS, hl, fun _ => rfl⟩) fun _ _ _ _ z => z
end K76
open PySem PySem.W PyProof.Rows
set_option maxRecDepth 100000 in
set_option maxHeartbeats 0 in
theorem PySem.Challenge.cw_stairlanes_k76_texts_of_no_counts_holds : PySem.Challenge.rw_stairlanes_k76_texts_of_no_counts.Holds := by
  w_on; o_law; k_head; (case hw => w_witness2)
  k_fill
  refine K76.walk (l := PySem.Challenge.rw_stairlanes_k76_texts_of_no_counts) rfl rfl (fun w h Y => PySem.W.kIn_of Y) ?F
  case F =>
    intro w mg fa h KX G hmg
    refine' K76.all_mk KX G hmg (K76.fn_at ?a1 ?l1 ?c1 ?k1) (K76.fn_at ?a2 ?l2 ?c2 ?k2) (K76.fn_at ?a3 ?l3 ?c3 ?k3) (K76.fn_at ?a4 ?l4 ?c4 ?k4) (K76.fn_at ?a5 ?l5 ?c5 ?k5) (K76.fn_at ?a6 ?l6 ?c6 ?k6) (K76.fn_at ?a7 ?l7 ?c7 ?k7) (K76.fn_at ?a8 ?l8 ?c8 ?k8) (K76.fn_at ?a9 ?l9 ?c9 ?k9) (K76.fn_at ?a10 ?l10 ?c10 ?k10) ?z1 ?z2 ?z3 ?z4 ?z5 ?z6 ?z7 ?z8 ?z9 ?z10 ?z11 ?z12 ?z13 ?z14 ?z15 ?z16 ?z17 ?zk0 ?zk1 ?aL ?aG ?aD ?aO ?aN ?aE ?lG ?lN ?uN ?iG (K76.init_at ?lI ?cI ?kI) ?cCL ?lM ?uM ?iM ?seG ?kpG ?spL ?rdL ?fdL ?x1 ?x2 ?x3 ?x4 ?x5 ?x6 ?x7 ?x8 ?y1 ?y2 ?y3 ?y4 ?y5D ?cCD ?y6D ?y7D ?y5O ?cCO ?y6O ?y7O ?y5N ?cCN ?y6N ?y7N ?y5E ?cCE ?y6E ?y7E ?y8 ?y9 ?y0 ?nap
    (case a1 => k_is); (case l1 => k_is); (case c1 => k_is); (case k1 => k_is)
    (case a2 => k_is); (case l2 => k_is); (case c2 => k_is); (case k2 => k_is)
    (case a3 => k_is); (case l3 => k_is); (case c3 => k_is); (case k3 => k_is)
    (case a4 => k_is); (case l4 => k_is); (case c4 => k_is); (case k4 => k_is)
    (case a5 => k_is); (case l5 => k_is); (case c5 => k_is); (case k5 => k_is)
    (case a6 => k_is); (case l6 => k_is); (case c6 => k_is); (case k6 => k_is)
    (case a7 => k_is); (case l7 => k_is); (case c7 => k_is); (case k7 => k_is)
    (case a8 => k_is); (case l8 => k_is); (case c8 => k_is); (case k8 => k_is)
    (case a9 => k_is); (case l9 => k_is); (case c9 => k_is); (case k9 => k_is)
    (case a10 => k_is); (case l10 => k_is); (case c10 => k_is); (case k10 => k_is)
    (case z1 => k_is)
    (case z2 => k_is)
    (case z3 => k_is)
    (case z4 => k_is)
    (case z5 => k_is)
    (case z6 => k_is)
    (case z7 => k_is)
    (case z8 => k_is)
    (case z9 => k_is)
    (case z10 => k_is)
    (case z11 => k_is)
    (case z12 => k_is)
    (case z13 => k_is)
    (case z14 => k_is)
    (case z15 => k_is)
    (case z16 => k_is)
    (case z17 => k_is)
    (case zk0 => k_is)
    (case zk1 => k_is)
    (case aL => k_is)
    (case aG => k_is)
    (case aD => k_is)
    (case aO => k_is)
    (case aN => k_is)
    (case aE => k_is)
    (case lG => k_is)
    (case lN => k_is)
    (case uN => simp [PySem.W.nsOkIn, List.lookup])
    (case iG => k_is)
    (case lI => k_is)
    (case cI => k_is)
    (case kI => k_is)
    (case cCL => k_is)
    (case lM => k_is)
    (case uM => simp [PySem.W.nsOkIn, List.lookup])
    (case iM => k_is)
    (case seG => k_is)
    (case kpG => k_is)
    (case spL => k_is)
    (case rdL => k_is)
    (case fdL => k_is)
    (case x1 => k_is)
    (case x2 => k_is)
    (case x3 => k_is)
    (case x4 => k_is)
    (case x5 => k_is)
    (case x6 => k_is)
    (case x7 => k_is)
    (case x8 => k_is)
    (case y1 => k_is)
    (case y2 => k_is)
    (case y3 => k_is)
    (case y4 => rfl)
    (case y5D => rfl)
    (case cCD => k_is)
    (case y6D => k_is)
    (case y7D => k_is)
    (case y5O => rfl)
    (case cCO => k_is)
    (case y6O => k_is)
    (case y7O => k_is)
    (case y5N => rfl)
    (case cCN => k_is)
    (case y6N => k_is)
    (case y7N => k_is)
    (case y5E => rfl)
    (case cCE => k_is)
    (case y6E => k_is)
    (case y7E => k_is)
    (case y8 => rfl)
    (case y9 => rfl)
    (case y0 => k_is)
    (case nap => k_is)
