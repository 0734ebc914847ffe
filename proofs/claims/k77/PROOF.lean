import PyProof.Rows.All
import Wide.All
import OpenK.AllK
import Wide.FinOn
import Lean
import PyProof.EqAt
import PyProof.EqKinds
import PyProof.TupleCall
import PyProof.NeKinds
import KE.KIntText
import PyProof.TupleOfStr
import PyProof.ReprRoads
import PyProof.StrBlockL
import PyProof.StrLawsTight
import PyProof.StrWalks
import PyProof.SliceStr2
import PyProof.StrLawsIdx
import PyProof.Rows.ReprOcc
import PyProof.Rows.StrBin
import KE.KSortTup
import KE.KItemsList
import PyProof.CollectIter
import PyProof.Rows.FStr
import KE.KTryMore
import PyProof.Rows.Range3
import PyProof.Rows.StrClip
import PySem.Challenge.RW_stairlanes_k77_whole_any_rows
set_option Elab.async false
set_option linter.all false
set_option maxRecDepth 100000
namespace L2
open PySem PySem.Spec PyProof.Rows
abbrev Key := Sum Int Str
def keyIs : Key → Value → Bool
  | .inl k, v => Value.isInt k v
  | .inr x, v => Value.isStrOf x v
def keyH (w : World) : Key → Int
  | .inl k => hashInt k
  | .inr x => hashStr w x
theorem keyIs_shape : ∀ {k : Key} {v : Value}, keyIs k v = true → (∃ i t, k = Sum.inl i ∧ v = Value.int i t) ∨ (∃ x t, k = Sum.inr x ∧ v = Value.str x t)
  | .inl i, v, h => by
    obtain ⟨t, e⟩ := Value.isInt_shape (k := i) (v := v) h
    exact .inl ⟨i, t, rfl, e⟩
  | .inr x, v, h => by
    obtain ⟨t, e⟩ := Value.isStrOf_shape (x := x) (v := v) h
    exact .inr ⟨x, t, rfl, e⟩
theorem keyIs_int (i : Int) (t : Tok) : keyIs (.inl i) (.int i t) = true := by simp [keyIs, Value.isInt]
theorem keyIs_str (x : Str) (t : Tok) : keyIs (.inr x) (.str x t) = true := by simp [keyIs, Value.isStrOf]
theorem key_ll (a b : Int) : decide ((Sum.inl a : Key) = Sum.inl b) = (a == b) := by
  by_cases e : a = b
  · subst e; simp
  · have h : ¬ (Sum.inl a : Key) = Sum.inl b := fun q => e (Sum.inl.inj q)
    rw [decide_eq_false h]
    exact (beq_eq_false_iff_ne.mpr e).symm
theorem key_rr (a b : Str) : decide ((Sum.inr a : Key) = Sum.inr b) = decide (a = b) := by
  by_cases e : a = b
  · subst e; simp
  · have h : ¬ (Sum.inr a : Key) = Sum.inr b := fun q => e (Sum.inr.inj q)
    rw [decide_eq_false h, decide_eq_false e]
theorem key_lr (a : Int) (b : Str) : decide ((Sum.inl a : Key) = Sum.inr b) = false := decide_eq_false (fun q => nomatch q)
theorem key_rl (a : Str) (b : Int) : decide ((Sum.inr a : Key) = Sum.inl b) = false := decide_eq_false (fun q => nomatch q)

def mixKind (prog : Program) (w : World) : PySem.KeyKind prog w Key where
  is := keyIs
  hash := keyH w
  inj := fun v a b ha hb => by
    rcases keyIs_shape ha with ⟨i, t, rfl, rfl⟩ | ⟨x, t, rfl, rfl⟩
    · rcases keyIs_shape hb with ⟨j, u, rfl, e⟩ | ⟨y, u, rfl, e⟩
      · injection e with e1 _; rw [e1]
      · exact nomatch e
    · rcases keyIs_shape hb with ⟨j, u, rfl, e⟩ | ⟨y, u, rfl, e⟩
      · exact nomatch e
      · injection e with e1 _; rw [e1]
  byValue := fun k v h => by
    rcases keyIs_shape h with ⟨i, t, rfl, rfl⟩ | ⟨x, t, rfl, rfl⟩ <;> rfl
  pyHash := fun hv h => by
    rcases keyIs_shape hv with ⟨i, t, rfl, rfl⟩ | ⟨x, t, rfl, rfl⟩
    · exact wpAny_pyHash_int h
    · exact wpAny_pyHash_str h
  eqBool := fun hu hv h => by
    rcases keyIs_shape hu with ⟨i, t, rfl, rfl⟩ | ⟨x, t, rfl, rfl⟩
    · rcases keyIs_shape hv with ⟨j, u, rfl, rfl⟩ | ⟨y, u, rfl, rfl⟩
      · rw [key_ll] at h; exact wpAny_eqBool_int h
      · rw [key_lr] at h; exact SeqAt.EqAt.int_str i t y u _ _ _ _ h
    · rcases keyIs_shape hv with ⟨j, u, rfl, rfl⟩ | ⟨y, u, rfl, rfl⟩
      · rw [key_rl] at h; exact SeqAt.EqAt.str_int x t j u _ _ _ _ h
      · rw [key_rr] at h; exact wpAny_eqBool_str h
  «strs» := fun k x t v h => by
    rcases keyIs_shape h with ⟨i, u, rfl, e⟩ | ⟨y, u, rfl, e⟩
    · exact nomatch e
    · injection e with e1 _
      subst e1
      cases v <;> rfl

theorem mixKind_int (prog : Program) (w : World) (i : Int) (t : Tok) : (mixKind prog w).is (.inl i) (.int i t) = true := keyIs_int i t
theorem mixKind_str (prog : Program) (w : World) (x : Str) (t : Tok) : (mixKind prog w).is (.inr x) (.str x t) = true := keyIs_str x t
end L2

namespace L2
open PySem PySem.Spec PyProof.Rows
inductive V where
  | non | bl (b : Bool) | int (i : Int) | str (x : Str) | byt (b : Array UInt8) | flt (b : UInt64) | ref (a : Addr) | ty (n : String)
  deriving DecidableEq

def RelV : V → Value → Prop
  | .non, u => u = Value.none
  | .bl b, u => u = Value.bool b
  | .int i, u => ∃ t, u = Value.int i t
  | .str x, u => ∃ t, u = Value.str x t
  | .byt b, u => ∃ t, u = Value.bytes b t
  | .flt b, u => ∃ t, u = Value.float b t
  | .ref a, u => u = Value.ref a
  | .ty n, u => u = Value.type n

abbrev Vals : List V → List Value → Prop := Paired RelV
theorem Vals.length {xs : List V} {us : List Value} (r : Vals xs us) : xs.length = us.length := Paired.length r
theorem Vals.get : ∀ {xs : List V} {us : List Value} {i : Nat} {x : V}, Vals xs us → xs[i]? = some x → ∃ u, us[i]? = some u ∧ RelV x u
  | _, _, _, _, .nil, e => by simp at e
  | _, _, 0, _, .cons r _, e => by simp at e; subst e; exact ⟨_, rfl, r⟩
  | _, _, i + 1, x, .cons _ t, e => by
    obtain ⟨u, h1, h2⟩ := Vals.get (i := i) (x := x) t (by simpa using e)
    exact ⟨u, by simpa using h1, h2⟩
theorem Vals.set {x : V} {u : Value} (r : RelV x u) : ∀ {xs : List V} {us : List Value} (i : Nat), Vals xs us → Vals (xs.set i x) (us.set i u)
  | _, _, _, .nil => .nil
  | _, _, 0, .cons _ t => .cons r t
  | _, _, i + 1, .cons q t => .cons q (Vals.set r i t)
theorem Vals.append : ∀ {xs ys : List V} {us ws : List Value}, Vals xs us → Vals ys ws → Vals (xs ++ ys) (us ++ ws)
  | _, _, _, _, .nil, s => s
  | _, _, _, _, .cons r t, s => .cons r (Vals.append t s)
theorem Vals.take : ∀ {xs : List V} {us : List Value} (n : Nat), Vals xs us → Vals (xs.take n) (us.take n)
  | _, _, 0, _ => .nil
  | _, _, _ + 1, .nil => .nil
  | _, _, n + 1, .cons r t => .cons r (Vals.take n t)
theorem Vals.drop : ∀ {xs : List V} {us : List Value} (n : Nat), Vals xs us → Vals (xs.drop n) (us.drop n)
  | _, _, 0, r => r
  | _, _, _ + 1, .nil => .nil
  | _, _, n + 1, .cons _ t => Vals.drop n t
def RelO : Option V → Option Value → Prop
  | some v, some u => RelV v u
  | none, none => True
  | _, _ => False
def KV {κ : Type} : List (κ × V) → List (κ × Value) → Prop := Paired fun (p : κ × V) (q : κ × Value) => p.1 = q.1 ∧ RelV p.2 q.2
def kV : Key → V
  | .inl i => .int i
  | .inr x => .str x
inductive HO where
  | lst (xs : List V)
  | tup (xs : List V)
  | dK (kvs : List (Key × V)) | dT (kvs : List (List Key × V))
  | set (S : Int → Bool) (n : Nat)
  | ins (C dx : Addr) (fs : List (Str × V))
  | own (x : Addr)
  | xd (fs : List (Str × V))
  | met (f x : Addr)
  | rng (lo hi : Int)
  | frz (o : Obj) (u : HO)
  | tbl (ps : Array Value)
  | ext (φ : Heap → Prop)

abbrev Hp := Addr → Option HO
def upd (H : Hp) (a : Addr) (o : HO) : Hp := fun b => if b = a then some o else H b
theorem upd_same {H : Hp} {a : Addr} {o : HO} : upd H a o a = some o := by unfold upd; rw [if_pos rfl]
theorem upd_ne {H : Hp} {a b : Addr} {o : HO} (h : b ≠ a) : upd H a o b = H b := by unfold upd; rw [if_neg h]
theorem ne_of {H : Hp} {a b : Addr} {o u : HO} (h : H a = some o) (h' : H b = some u) (d : o ≠ u) : a ≠ b := by
  intro e; subst e; rw [h] at h'; exact d (Option.some.inj h')
theorem ne_of_none {H : Hp} {a b : Addr} {o : HO} (h : H a = some o) (h' : H b = none) : a ≠ b := by
  intro e; subst e; rw [h] at h'; cases h'
def TupX (h : Heap) (a : Addr) (items : Array Value) : Prop := ∃ o, h.get? a = some o ∧ o.cls = .type "tuple" ∧ ∃ n, o.data = .seq items n ∧ o.dict = none
theorem TupX.tup {h : Heap} {a : Addr} {items : Array Value} (x : TupX h a items) : IsTup h a items := let ⟨o, e, c, n, d, _⟩ := x; ⟨o, e, c, n, d⟩
theorem TupX.new (h : Heap) (items : Array Value) : TupX (h.push { cls := .type "tuple", data := .seq items }) h.objs.size items := ⟨_, Heap.get?_push_size _ rfl, rfl, 0, rfl, rfl⟩
section
variable (P : Program) (w : World)
def ObjOk (H : Hp) (h : Heap) (a : Addr) : HO → Prop
  | .lst xs => xs.length ≤ sizeLine ∧ ∃ (its : List Value) (n : Nat), Vals xs its ∧ h.get? a = some { cls := .type "list", data := .seq its.toArray n }
  | .tup xs => xs.length ≤ sizeLine ∧ ∃ its : List Value, Vals xs its ∧ TupX h a its.toArray
  | .dK kvs => kvs.length ≤ sizeLine ∧ (a == sysModules) = false ∧ ∃ vs, KV kvs vs ∧ h.DictOf (mixKind P w) a vs
  | .dT kvs => kvs.length ≤ sizeLine ∧ (a == sysModules) = false ∧ ∃ xs : List (List Key × Addr × Value),
      Paired (fun (p : List Key × V) (q : List Key × Addr × Value) => p.1 = q.1 ∧ H q.2.1 = some (.tup (p.1.map kV)) ∧ RelV p.2 q.2.2) kvs xs ∧
      ∃ o es ep, h.get? a = some o ∧ o.ExactDict ∧ o.data = .dict es ep ∧ es.toList = xs.map (entryOfKey (tupleKind (mixKind P w))) ∧ (xs.map (·.1)).Nodup
  | .set S n => h.SetOf (intKind P w) a S n
  | .ins C dx fs => H dx = some (.own a) ∧ fs.length ≤ 1000 ∧ dx ≠ a ∧ h.get? a = some (PySem.W.instObj C dx) ∧
      ∃ mA, h.Ns1 dx mA ∧ (∀ f, RelO (fs.lookup f) (mA f)) ∧ PySem.Within mA (fs.map (·.1))
  | .own _ => ∃ o, h.get? a = some o
  | .xd fs => ∃ mA, h.Ns1 a mA ∧ ∀ f, RelO (fs.lookup f) (mA f)
  | .rng lo hi => ∃ t u v, h.get? a = some { cls := .type "range", data := .fields #[.int lo t, .int hi u, .int 1 v] }
  | .frz o u => h.get? a = some o ∧ ObjOk H h a u
  | .tbl ps => h.get? a = some { cls := .none, data := .fields ps }
  | .met f x => h.get? a = some (PySem.W.methodObj (.ref f) (.ref x))
  | .ext φ => φ h ∧ (∃ o, h.get? a = some o) ∧ ∀ h1 h2 : Heap, φ h1 → (∀ o, h1.get? a = some o → h2.get? a = some o) → φ h2
def HOk (H : Hp) (h : Heap) : Prop := ∀ a o, H a = some o → ObjOk P w H h a o
end

section
variable {P : Program} {w : World} {H H' : Hp} {h h' : Heap} {a : Addr} {o : HO}
theorem ObjOk.lt (x : ObjOk P w H h a o) : a < h.objs.size := by
  cases o with
  | lst xs => obtain ⟨_, _, _, _, e⟩ := x; exact Heap.lt_size e
  | tup xs => obtain ⟨_, _, _, p⟩ := x; exact p.tup.lt
  | dK kvs => obtain ⟨_, _, _, _, o, _, _, e, _⟩ := x; exact Heap.lt_size e
  | dT kvs => obtain ⟨_, _, _, _, o, _, _, e, _⟩ := x; exact Heap.lt_size e
  | set S n => obtain ⟨o, _, _, _, e, _⟩ := x; exact Heap.lt_size e
  | ins C dx fs => obtain ⟨_, _, _, e, _⟩ := x; exact Heap.lt_size e
  | own y => obtain ⟨_, e⟩ := x; exact Heap.lt_size e
  | xd fs => obtain ⟨_, ⟨_, _, _, e, _⟩, _⟩ := x; exact Heap.lt_size e
  | rng lo hi => obtain ⟨_, _, _, e⟩ := x; exact Heap.lt_size e
  | frz ob u => obtain ⟨e, _⟩ := x; exact Heap.lt_size e
  | tbl ps => exact Heap.lt_size (show h.get? a = some _ from x)
  | met f y => exact Heap.lt_size (show h.get? a = some _ from x)
  | ext φ => obtain ⟨_, ⟨_, e⟩, _⟩ := x; exact Heap.lt_size e
theorem Paired.mapP {α β : Type} {F G : α → β → Prop} : ∀ {l₁ : List α} {l₂ : List β}, Paired F l₁ l₂ → (∀ a b, F a b → G a b) → Paired G l₁ l₂
  | _, _, .nil, _ => .nil
  | _, _, .cons r t, f => .cons (f _ _ r) (Paired.mapP t f)
theorem ObjOk.stay (x : ObjOk P w H h a o) (k : ∀ b u, (b = a ∨ H b = some (.own a)) → h.get? b = some u → h'.get? b = some u)
    (ho : ∀ b, H b = some (.own a) → H' b = some (.own a)) (ht : ∀ b xs, H b = some (.tup xs) → H' b = some (.tup xs)) : ObjOk P w H' h' a o := by
  induction o with
  | lst xs => obtain ⟨z, its, n, r, e⟩ := x; exact ⟨z, its, n, r, k _ _ (.inl rfl) e⟩
  | tup xs => obtain ⟨z, its, r, ob, e, c⟩ := x; exact ⟨z, its, r, ob, k _ _ (.inl rfl) e, c⟩
  | dK kvs => obtain ⟨z, y, vs, r, ob, es, ep, e, c⟩ := x; exact ⟨z, y, vs, r, ob, es, ep, k _ _ (.inl rfl) e, c⟩
  | dT kvs =>
    obtain ⟨z, y, xs, r, ob, es, ep, e, c⟩ := x
    exact ⟨z, y, xs, Paired.mapP r fun p q z => ⟨z.1, ht _ _ z.2.1, z.2.2⟩, ob, es, ep, k _ _ (.inl rfl) e, c⟩
  | set S n => obtain ⟨ob, es, ep, t, e, c⟩ := x; exact ⟨ob, es, ep, t, k _ _ (.inl rfl) e, c⟩
  | ins C dx fs =>
    obtain ⟨d, z, ne, e, mA, ⟨od, es, ep, e2, c⟩, r⟩ := x
    exact ⟨ho _ d, z, ne, k _ _ (.inl rfl) e, mA, ⟨od, es, ep, k _ _ (.inr d) e2, c⟩, r⟩
  | own y => obtain ⟨ob, e⟩ := x; exact ⟨ob, k _ _ (.inl rfl) e⟩
  | xd fs => obtain ⟨mA, ⟨od, es, ep, e, c⟩, r⟩ := x; exact ⟨mA, ⟨od, es, ep, k _ _ (.inl rfl) e, c⟩, r⟩
  | rng lo hi => obtain ⟨t, u, v, e⟩ := x; exact ⟨t, u, v, k _ _ (.inl rfl) e⟩
  | frz ob u ih => obtain ⟨e, q⟩ := x; exact ⟨k _ _ (.inl rfl) e, ih q⟩
  | tbl ps =>
    have e : h.get? a = some { cls := .none, data := .fields ps } := x
    show h'.get? a = some { cls := .none, data := .fields ps }
    exact k a _ (.inl rfl) e
  | met f y =>
    have e : h.get? a = some (PySem.W.methodObj (.ref f) (.ref y)) := x
    show h'.get? a = some (PySem.W.methodObj (.ref f) (.ref y))
    exact k a _ (.inl rfl) e
  | ext φ => obtain ⟨p, ⟨o, e⟩, st⟩ := x; exact ⟨st _ _ p fun o q => k _ _ (.inl rfl) q, ⟨o, k _ _ (.inl rfl) e⟩, st⟩
theorem HOk.lt (x : HOk P w H h) (e : H a = some o) : a < h.objs.size := (x a o e).lt
theorem HOk.fresh (x : HOk P w H h) (e : h.objs.size ≤ a) : H a = none := by
  cases q : H a with
  | none => rfl
  | some u => exact absurd (Nat.lt_of_lt_of_le (x.lt q) e) (Nat.lt_irrefl _)
theorem HOk.kept (x : HOk P w H h) (k : ∀ b u, h.get? b = some u → h'.get? b = some u) : HOk P w H h' := fun a o e =>
  (x a o e).stay (fun b u _ q => k b u q) (fun _ q => q) fun _ _ q => q
theorem HOk.laid (x : HOk P w H h) (k : ∀ b u, h.get? b = some u → h'.get? b = some u) (hp : h.objs.size ≤ a) (new : ObjOk P w (upd H a o) h' a o) : HOk P w (upd H a o) h' := fun b u e => by
  have hn := x.fresh hp
  by_cases hb : b = a
  · subst hb; rw [upd_same] at e; cases e; exact new
  · rw [upd_ne hb] at e
    exact (x b u e).stay (fun c v _ q => k c v q) (fun c q => by rw [upd_ne (ne_of_none q hn)]; exact q) fun c xs q => by rw [upd_ne (ne_of_none q hn)]; exact q
end
def Rd (H : Hp) (a : Addr) (u : HO) : Prop := H a = some u ∨ ∃ o, H a = some (.frz o u)
theorem Rd.ok {P : Program} {w : World} {H : Hp} {h : Heap} {a : Addr} {u : HO} (r : Rd H a u) (x : HOk P w H h) : ObjOk P w H h a u := by
  rcases r with r | ⟨o, r⟩
  · exact x a u r
  · obtain ⟨_, q⟩ := x a _ r
    exact q
def Mut : Option HO → Prop
  | some (.lst _) => True
  | some (.dK _) => True
  | some (.dT _) => True
  | some (.set _ _) => True
  | some (.ins _ _ _) => True
  | some (.ext _) => True
  | _ => False
section
variable {P : Program} {w : World} {H : Hp} {h h' : Heap} {x e : Addr} {o' : HO}
theorem HOk.write (ok : HOk P w H h) (mu : Mut (H x)) (he : e = x ∨ H e = some (.own x)) (k : ∀ b u, b ≠ e → h.get? b = some u → h'.get? b = some u) (heo : ∃ u, h'.get? e = some u)
    (new : ObjOk P w (upd H x o') h' x o') : HOk P w (upd H x o') h' := fun b u q => by
  have nown : ∀ c y, H c = some (.own y) → c ≠ x := fun c y r z => by subst z; rw [r] at mu; exact mu
  have ntup : ∀ c xs, H c = some (.tup xs) → c ≠ x := fun c xs r z => by subst z; rw [r] at mu; exact mu
  by_cases hb : b = x
  · subst hb; rw [upd_same] at q; cases q; exact new
  · rw [upd_ne hb] at q
    by_cases hbe : b = e
    · have q' : H b = some (.own x) := by
        rcases he with z | z
        · exact absurd (hbe.trans z) hb
        · rw [hbe]; exact z
      rw [q] at q'; cases q'
      obtain ⟨v, hv⟩ := heo
      exact ⟨v, by rw [hbe]; exact hv⟩
    · refine (ok b u q).stay (fun c v hc r => k c v ?_ r) (fun c r => by rw [upd_ne (nown c b r)]; exact r) fun c xs r => by rw [upd_ne (ntup c xs r)]; exact r
      rcases hc with rfl | hc
      · exact hbe
      · rintro rfl
        rcases he with z | z
        · exact nown c b hc z
        · rw [hc] at z; cases z; exact hb rfl
end
structure Un (fs ex : List Addr) (H H' : Hp) (h h' : Heap) : Prop where
  keep : ∀ b o, h.get? b = some o → H b = none → b ∉ fs → b ∉ ex → h'.get? b = some o
  slot : ∀ b o, h.get? b = some o → H b = none → b ∈ fs → b ∉ ex → ∃ sl, h'.get? b = some { o with slots := sl }
  free : ∀ b o, h.get? b = some o → H b = none → b ∉ ex → H' b = none
  there : ∀ b o, h.get? b = some o → b ∉ ex → ∃ o', h'.get? b = some o'
  tups : ∀ b xs, H b = some (.tup xs) → H' b = some (.tup xs)
  frzs : ∀ b o u, H b = some (.frz o u) → H' b = some (.frz o u)
  tbls : ∀ b ps, H b = some (.tbl ps) → ∃ more, H' b = some (.tbl (ps ++ more))
section
variable {fs fs' ex ex' : List Addr} {H H1 H2 : Hp} {h h1 h2 h' : Heap} {a x e : Addr} {o : HO}
theorem Un.any (u : Un fs ex H H1 h h1) {b : Addr} {ob : Obj} (q : h.get? b = some ob) (n : H b = none) (hx : b ∉ ex) : ∃ sl, h1.get? b = some { ob with slots := sl } := by
  by_cases hb : b ∈ fs
  · exact u.slot b ob q n hb hx
  · exact ⟨ob.slots, u.keep b ob q n hb hx⟩
theorem Un.kept (k : ∀ b u, h.get? b = some u → h'.get? b = some u) : Un fs ex H H h h' :=
  ⟨fun b ob q _ _ _ => k b ob q, fun b ob q _ _ _ => ⟨ob.slots, k b ob q⟩, fun _ _ _ n _ => n, fun b ob q _ => ⟨ob, k b ob q⟩, fun _ _ q => q, fun _ _ _ q => q, fun _ ps q => ⟨#[], by rw [q]; simp⟩⟩
theorem Un.refl : Un fs ex H H h h := Un.kept fun _ _ q => q
theorem Un.laid (k : ∀ b u, h.get? b = some u → h'.get? b = some u) (hp : h.objs.size ≤ a) (hn : H a = none) : Un fs ex H (upd H a o) h h' where
  keep := fun b u q _ _ _ => k b u q
  slot := fun b u q _ _ _ => ⟨u.slots, k b u q⟩
  free := fun b u q n _ => by rw [upd_ne (Nat.ne_of_lt (Nat.lt_of_lt_of_le (Heap.lt_size q) hp))]; exact n
  there := fun b u q _ => ⟨u, k b u q⟩
  tups := fun b xs q => by rw [upd_ne (ne_of_none q hn)]; exact q
  frzs := fun b u xs q => by rw [upd_ne (ne_of_none q hn)]; exact q
  tbls := fun b ps q => ⟨#[], by rw [upd_ne (ne_of_none q hn), q]; simp⟩
theorem Un.write (mu : Mut (H x)) (he : e = x ∨ H e = some (.own x)) (k : ∀ b u, b ≠ e → h.get? b = some u → h'.get? b = some u) (heo : ∃ u, h'.get? e = some u) : Un fs ex H (upd H x o) h h' := by
  have hx : ∀ b, H b = none → b ≠ x := fun b n z => by subst z; rw [n] at mu; exact mu
  have hb : ∀ b, H b = none → b ≠ e := fun b n z => by
    subst z
    rcases he with r | r
    · exact hx b n r
    · rw [n] at r; cases r
  have hm : ∀ b u, H b = some u → ¬ Mut (some u) → b ≠ x := fun b u q nm z => by subst z; rw [q] at mu; exact nm mu
  refine ⟨fun b u q n _ _ => k b u (hb b n) q, fun b u q n _ _ => ⟨u.slots, k b u (hb b n) q⟩, fun b u q n _ => by rw [upd_ne (hx b n)]; exact n, fun b u q _ => ?_,
    fun b xs q => by rw [upd_ne (hm b _ q fun z => z)]; exact q, fun b u xs q => by rw [upd_ne (hm b _ q fun z => z)]; exact q, fun b ps q => ⟨#[], by rw [upd_ne (hm b _ q fun z => z), q]; simp⟩⟩
  by_cases hbe : b = e
  · subst hbe; exact heo
  · exact ⟨u, k b u hbe q⟩
end
def trk (h : Heap) (H : Hp) : List Addr := (List.range h.objs.size).filter fun a => (H a).isSome
def hidT (h : Heap) (H : Hp) : Heap := PySem.W.hideAll h (trk h H)
theorem hidT_size (h : Heap) (H : Hp) : (hidT h H).objs.size = h.objs.size := PySem.W.hideAll_size _ _
theorem hidT_get {h : Heap} {H : Hp} {b : Addr} {o : Obj} (e : h.get? b = some o) (n : H b = none) : (hidT h H).get? b = some o :=
  PySem.W.hideAll_get _ e fun hm => by
    have q : (H b).isSome = true := (List.mem_filter.mp hm).2
    rw [n] at q; simp at q
theorem of_hidT {h : Heap} {H : Hp} {b : Addr} {o : Obj} (e : (hidT h H).get? b = some o) : h.get? b = some o ∧ H b = none := by
  have e' : h.get? b = some o := PySem.W.of_hideAll (trk h H) e
  refine ⟨e', ?_⟩
  cases q : H b with
  | none => rfl
  | some x =>
    have hm : b ∈ trk h H := List.mem_filter.mpr ⟨List.mem_range.mpr (Heap.lt_size e'), by simp [q]⟩
    have z : (hidT h H).get? b = none := PySem.W.hideAll_none (trk h H) hm
    rw [z] at e; cases e
def allNews (g h : Heap) (L : Addr) : List (Addr × Obj) := (List.range h.objs.size).filterMap fun a => if a = L ∨ (g.get? a).isSome = true then none else (h.get? a).map fun o => (a, o)
def rest (g h : Heap) (L d : Addr) : List (Addr × Obj) := (allNews g h L).filter fun p => decide (p.1 ≠ d)
end L2

namespace L2
open PySem PySem.Spec PyProof.Rows
structure Mod (K : PySem.W.Frag) (mg : Str → Option Value) (base : Heap) : Prop where
  kin : K.In base
  glob : base.Ns mainGlobals mg
  blt : ∃ mb, base.Ns builtinsNs mb ∧ ∀ x : Str, x ≠ "__name__" → mb x = bootBuiltins x
  nolimit : base.NoLimit

/-- the context: a def's body (or a comprehension's block) running. base: fixed through the whole law; s₀, H₀: the entry; outer: the frames whose slots others may change (a def's callers); stack: all frames that run;
   ex: iterators that were made ahead of the entry and are walked here (a comprehension's); fn: the names whose cells were made at the entry (a def: all; a comprehension's block: its own); calm: not within an except suite; pn: pins that every state bears; xe: what is wanted of an exception that leaves the code -/
structure Cx where
  prog : Program
  w : World
  K : PySem.W.Frag
  mg : Str → Option Value
  base : Heap
  A : Around
  N : List Str
  s₀ : Shared
  H₀ : Hp
  env : Env
  outer : List Env
  stack : List Env
  ex : List Addr
  fn : Str → Bool
  calm : Bool
  pn : List (Addr × Obj)
  xe : Value → Shared → Prop
def frs (l : List Env) : List Addr := l.filterMap (·.frame)
abbrev Cx.fs (X : Cx) : List Addr := frs X.outer

def Vis (sc : Scope) (x : Str) : Prop := sc.names.lookup x = some .local ∨ sc.names.lookup x = some .cell ∨ sc.names.lookup x = some .free
def Loc (sc : Scope) (x : Str) : Prop := sc.names.lookup x = some .local ∨ sc.names.lookup x = some .cell
def Look (env : Env) (h : Heap) (m : Str → Option Value) (x : Str) (u : Value) : Prop :=
  (env.kindOf x = some .local ∧ m x = some u) ∨ ((env.kindOf x = some .cell ∨ env.kindOf x = some .free) ∧ ∃ c, env.cells.lookup x = some c ∧ h.IsCell c (some u))

structure Cx.Ok (X : Cx) : Prop where
  mod : Mod X.K X.mg X.base
  kind : X.env.scope.kind = .function
  glob : X.env.globals = mainGlobals
  blt : X.env.builtins = builtinsNs
  above : X.s₀.heap.objs.size ≤ X.env.locals
  inj : ∀ x y c, X.env.cells.lookup x = some c → X.env.cells.lookup y = some c → x = y
  has : ∀ x, (X.env.kindOf x = some .cell ∨ X.env.kindOf x = some .free) → ∃ c, X.env.cells.lookup x = some c
  cab : ∀ x c, X.fn x = true → X.env.cells.lookup x = some c → X.s₀.heap.objs.size ≤ c
  hd : X.calm = true → X.A.handled = none
  frames : X.A.frames = some X.stack
  stk : X.stack = X.outer ∨ (X.stack = X.env :: X.outer ∧ X.env.frame = some X.env.locals)
  exf : ∀ b ∈ X.ex, b ≠ X.env.locals ∧ ∀ x c, X.env.cells.lookup x = some c → c ≠ b
  bs : ∀ b o, X.base.get? b = some o → X.s₀.heap.get? b = some o ∧ X.H₀ b = none
  bsz : X.base.objs.size ≤ X.s₀.heap.objs.size
  noex : ∀ b o, X.base.get? b = some o → b ∉ X.ex
  exfs : ∀ b ∈ X.ex, b ∉ X.fs
  funs : X.s₀.heap.FunFrames X.base X.outer
  frf : ∀ b ∈ X.fs, X.H₀ b = none

structure Inv (X : Cx) (pins : List (Addr × Obj)) (σ : List (Option V)) (H : Hp) (s : Shared) : Prop where
  ok : X.Ok
  os : s.os = X.s₀.os
  bare : AllBare s.gens
  base : Un X.fs X.ex X.H₀ H X.s₀.heap s.heap
  loc : ∃ m, s.heap.Ns X.env.locals m ∧ ∀ (i : Nat) (x : Str) (v : V), X.N[i]? = some x → σ[i]? = some (some v) → Vis X.env.scope x → ∃ u, RelV v u ∧ Look X.env s.heap m x u
  cell : ∀ x c, X.env.cells.lookup x = some c → ∃ v, s.heap.IsCell c v
  free : H X.env.locals = none
  freeC : ∀ x c, X.env.cells.lookup x = some c → H c = none
  pin : ∀ p ∈ X.pn ++ pins, s.heap.get? p.1 = some p.2 ∧ H p.1 = none ∧ p.1 ≠ X.env.locals ∧ p.1 ∉ X.fs ∧ ∀ v, p.2.data ≠ .cell v
  hok : HOk X.prog X.w H s.heap
  len : σ.length = X.N.length

section
variable {X : Cx} {pins : List (Addr × Obj)} {σ : List (Option V)} {H H' : Hp} {s : Shared} {h' : Heap}

theorem Cx.Ok.nofr (ok : X.Ok) {b : Addr} {o : Obj} (e : X.base.get? b = some o) : b ∉ X.fs := fun hb => by
  have := (ok.funs.mem hb).1
  rw [e] at this; cases this
theorem Inv.bs (I : Inv X pins σ H s) : ∀ b o, X.base.get? b = some o → s.heap.get? b = some o ∧ H b = none := fun b o e =>
  ⟨I.base.keep b o (I.ok.bs b o e).1 (I.ok.bs b o e).2 (I.ok.nofr e) (I.ok.noex b o e), I.base.free b o (I.ok.bs b o e).1 (I.ok.bs b o e).2 (I.ok.noex b o e)⟩
theorem Inv.bk (I : Inv X pins σ H s) : ∀ b o, X.base.get? b = some o → s.heap.get? b = some o := fun b o e => (I.bs b o e).1
theorem Inv.mod (I : Inv X pins σ H s) : Mod X.K X.mg X.base := I.ok.mod
theorem Inv.kIn (I : Inv X pins σ H s) : X.K.In s.heap := I.ok.mod.kin.keeps I.bk
theorem Inv.lt (I : Inv X pins σ H s) : X.env.locals < s.heap.objs.size := let ⟨_, hn, _⟩ := I.loc; hn.lt
theorem Inv.sz (I : Inv X pins σ H s) : X.s₀.heap.objs.size ≤ s.heap.objs.size := Nat.le_trans I.ok.above (Nat.le_of_lt I.lt)
theorem Inv.nofs (I : Inv X pins σ H s) {a : Addr} (h : s.heap.objs.size ≤ a) : a ∉ X.fs := fun hb => by
  obtain ⟨_, o, ho, _⟩ := I.ok.funs.mem hb
  exact absurd (Nat.lt_of_lt_of_le (Heap.lt_size ho) (Nat.le_trans I.sz h)) (Nat.lt_irrefl _)
theorem Inv.cne (I : Inv X pins σ H s) : ∀ x c, X.env.cells.lookup x = some c → c ≠ X.env.locals := fun x c e z => by
  obtain ⟨v, o, ho, hd⟩ := I.cell x c e
  obtain ⟨m, ⟨o', es, ep, ho', hd', _⟩, _⟩ := I.loc
  rw [z, ho'] at ho; cases ho; rw [hd'] at hd; cases hd
theorem Inv.funs (I : Inv X pins σ H s) : s.heap.FunFrames X.base X.outer := by
  have all : ∀ (l : List Env), (∀ b ∈ frs l, b ∈ X.fs) → X.s₀.heap.FunFrames X.base l → s.heap.FunFrames X.base l := by
    intro l
    induction l with
    | nil => intro _ _; trivial
    | cons env r ih =>
      intro hs hl
      obtain ⟨hk, ⟨L, o, hf, hn, ho, hd⟩, hr⟩ := hl
      have hL : L ∈ X.fs := hs L (by unfold frs; rw [List.filterMap_cons, hf]; exact List.mem_cons_self)
      obtain ⟨sl, e⟩ := I.base.slot L o ho (I.ok.frf L hL) hL fun z => I.ok.exfs L z hL
      exact ⟨hk, ⟨L, _, hf, hn, e, hd⟩, ih (fun b hb => hs b (by unfold frs; rw [List.filterMap_cons, hf]; exact List.mem_cons_of_mem _ hb)) hr⟩
  exact all X.outer (fun _ hb => hb) I.ok.funs
theorem Inv.stack (I : Inv X pins σ H s) : s.heap.FunFrames X.base X.stack := by
  rcases I.ok.stk with e | ⟨e, hf⟩
  · rw [e]; exact I.funs
  · rw [e]
    obtain ⟨m, hn, _⟩ := I.loc
    refine .cons (by rw [I.ok.kind]; decide) hf hn ?_ I.funs
    exact Heap.get?_none_of_le (Nat.le_trans I.ok.bsz I.ok.above)
theorem Inv.stkSub (I : Inv X pins σ H s) : ∀ b ∈ frs X.stack, b ∈ X.env.locals :: X.fs := fun b hb => by
  rcases I.ok.stk with e | ⟨e, hf⟩
  · rw [e] at hb; exact List.mem_cons_of_mem _ hb
  · rw [e] at hb
    unfold frs at hb
    rw [List.filterMap_cons, hf] at hb
    exact hb
theorem Inv.stkFree (I : Inv X pins σ H s) : ∀ b ∈ frs X.stack, H b = none := fun b hb => by
  rcases List.mem_cons.mp (I.stkSub b hb) with e | hb
  · rw [e]; exact I.free
  · obtain ⟨_, o, ho, _⟩ := I.ok.funs.mem hb
    exact I.base.free b o ho (I.ok.frf b hb) fun z => I.ok.exfs b z hb
theorem Inv.step {g' : Array GenState} {t' : Nat} {d' : Drawn} {ch : List Addr} (I : Inv X pins σ H s)
    (hch : ∀ b ∈ ch, (b ∈ X.ex ∨ X.s₀.heap.objs.size ≤ b) ∧ b ≠ X.env.locals ∧ (∀ x c, X.env.cells.lookup x = some c → c ≠ b) ∧ ∀ p ∈ X.pn ++ pins, p.1 ≠ b)
    (keep : ∀ b o, b ≠ X.env.locals → b ∉ X.fs → b ∉ ch → s.heap.get? b = some o → H b = none → h'.get? b = some o)
    (slot : ∀ b o, b ≠ X.env.locals → b ∈ X.fs → b ∉ ch → s.heap.get? b = some o → H b = none → ∃ sl, h'.get? b = some { o with slots := sl }) (free : ∀ b o, b ∉ ch → s.heap.get? b = some o → H b = none → H' b = none)
    (there : ∀ b o, b ∉ ch → s.heap.get? b = some o → ∃ o', h'.get? b = some o')
    (tups : ∀ b xs, H b = some (.tup xs) → H' b = some (.tup xs)) (frzs : ∀ b o u, H b = some (.frz o u) → H' b = some (.frz o u)) (tbls : ∀ b ps, H b = some (.tbl ps) → ∃ more, H' b = some (.tbl (ps ++ more)))
    (ns : ∀ m, s.heap.Ns X.env.locals m → h'.Ns X.env.locals m) (hok : HOk X.prog X.w H' h') (hg : AllBare g') :
    Inv X pins σ H' { s with heap := h', gens := g', drawn := d', toks := t' } := by
  have neL : ∀ b o, X.s₀.heap.get? b = some o → b ≠ X.env.locals := fun b o e => Nat.ne_of_lt (Nat.lt_of_lt_of_le (Heap.lt_size e) I.ok.above)
  have neC : ∀ b o, X.s₀.heap.get? b = some o → b ∉ X.ex → b ∉ ch := fun b o e hx hb => by
    rcases (hch b hb).1 with z | z
    · exact hx z
    · exact absurd (Nat.lt_of_lt_of_le (Heap.lt_size e) z) (Nat.lt_irrefl _)
  have cellK : ∀ x c, X.env.cells.lookup x = some c → ∀ v, s.heap.IsCell c v → h'.IsCell c v := fun x c e v ⟨o, ho, hd⟩ => by
    have nch : c ∉ ch := fun z => (hch c z).2.2.1 x c e rfl
    by_cases hc : c ∈ X.fs
    · obtain ⟨sl, q⟩ := slot c o (I.cne x c e) hc nch ho (I.freeC x c e)
      exact ⟨_, q, hd⟩
    · exact ⟨o, keep c o (I.cne x c e) hc nch ho (I.freeC x c e), hd⟩
  refine ⟨I.ok, I.os, hg, ⟨fun b o e n hb hx => ?_, fun b o e n hb hx => ?_, fun b o e n hx => ?_, fun b o e hx => ?_, fun b xs e => tups b xs (I.base.tups b xs e), fun b o xs e => frzs b o xs (I.base.frzs b o xs e), fun b ps e => ?_⟩, ?_, fun x c e => ?_, ?_, fun x c e => ?_, fun p hp => ?_, hok, I.len⟩
  · exact keep b o (neL b o e) hb (neC b o e hx) (I.base.keep b o e n hb hx) (I.base.free b o e n hx)
  · obtain ⟨sl, e1⟩ := I.base.slot b o e n hb hx
    obtain ⟨sl', e2⟩ := slot b _ (neL b o e) hb (neC b o e hx) e1 (I.base.free b o e n hx)
    exact ⟨sl', e2⟩
  · obtain ⟨o', e1⟩ := I.base.there b o e hx
    exact free b o' (neC b o e hx) e1 (I.base.free b o e n hx)
  · obtain ⟨o', e1⟩ := I.base.there b o e hx
    exact there b o' (neC b o e hx) e1
  · obtain ⟨m1, e1⟩ := I.base.tbls b ps e
    obtain ⟨m2, e2⟩ := tbls b _ e1
    exact ⟨m1 ++ m2, by rw [e2, Array.append_assoc]⟩
  · obtain ⟨m, hn, hl⟩ := I.loc
    refine ⟨m, ns m hn, fun i x v e1 e2 e3 => ?_⟩
    obtain ⟨u, r, l⟩ := hl i x v e1 e2 e3
    refine ⟨u, r, ?_⟩
    rcases l with l | ⟨k, c, e, z⟩
    · exact .inl l
    · exact .inr ⟨k, c, e, cellK x c e _ z⟩
  · obtain ⟨v, z⟩ := I.cell x c e
    exact ⟨v, cellK x c e v z⟩
  · obtain ⟨m, ⟨o, _, _, ho, _⟩, _⟩ := I.loc
    exact free _ o (fun z => (hch _ z).2.1 rfl) ho I.free
  · obtain ⟨v, o, ho, hd⟩ := I.cell x c e
    exact free c o (fun z => (hch c z).2.2.1 x c e rfl) ho (I.freeC x c e)
  · obtain ⟨e, n, ne, nf, d⟩ := I.pin p hp
    have nch : p.1 ∉ ch := fun z => (hch p.1 z).2.2.2 p hp rfl
    exact ⟨keep p.1 p.2 ne nf nch e n, free p.1 p.2 nch e n, ne, nf, d⟩
theorem Inv.un {t' : Nat} (I : Inv X pins σ H s) (u : Un X.fs [] H H' s.heap h') (hok : HOk X.prog X.w H' h') : Inv X pins σ H' { s with heap := h', toks := t' } := by
  obtain ⟨m, ⟨o, es, ep, ho, r⟩, _⟩ := id I.loc
  obtain ⟨sl, hL⟩ := u.any ho I.free (by simp)
  exact I.step (g' := s.gens) (d' := s.drawn) (ch := []) (fun _ z => nomatch z) (fun b o _ hb _ e n => u.keep b o e n hb (by simp)) (fun b o _ hb _ e n => u.slot b o e n hb (by simp)) (fun b o _ e n => u.free b o e n (by simp)) (fun b o _ e => u.there b o e (by simp)) u.tups u.frzs u.tbls (fun m' hm => by
    obtain ⟨o', es', ep', ho', r'⟩ := hm
    rw [ho] at ho'; cases ho'
    exact ⟨_, es', ep', hL, r'⟩) hok I.bare
theorem Inv.call {g' : Array GenState} {t' : Nat} {d' : Drawn} {ch : List Addr} (I : Inv X pins σ H s) (u : Un (frs X.stack) ch H H' s.heap h') (hok : HOk X.prog X.w H' h') (hg : AllBare g')
    (hch : ∀ b ∈ ch, (b ∈ X.ex ∨ X.s₀.heap.objs.size ≤ b) ∧ b ≠ X.env.locals ∧ (∀ x c, X.env.cells.lookup x = some c → c ≠ b) ∧ ∀ p ∈ X.pn ++ pins, p.1 ≠ b) :
    Inv X pins σ H' { s with heap := h', gens := g', drawn := d', toks := t' } := by
  obtain ⟨m, ⟨o, es, ep, ho, r⟩, _⟩ := id I.loc
  obtain ⟨sl, hL⟩ := u.any ho I.free fun z => (hch _ z).2.1 rfl
  exact I.step (ch := ch) hch (fun b o hL hb hc e n => u.keep b o e n (fun z => (List.mem_cons.mp (I.stkSub b z)).elim hL hb) hc) (fun b o _ _ hc e n => u.any e n hc) (fun b o hc e n => u.free b o e n hc) (fun b o hc e => u.there b o e hc) u.tups u.frzs u.tbls (fun m' hm => by
    obtain ⟨o', es', ep', ho', r'⟩ := hm
    rw [ho] at ho'; cases ho'
    exact ⟨_, es', ep', hL, r'⟩) hok hg
theorem Inv.turned {t' : Nat} {it : Addr} (I : Inv X pins σ H s) (k : ∀ b o, b ≠ it → s.heap.get? b = some o → h'.get? b = some o) (hn : H it = none) (hL : it ≠ X.env.locals)
    (h1 : it ∈ X.ex ∨ X.s₀.heap.objs.size ≤ it) (h2 : ∀ x c, X.env.cells.lookup x = some c → c ≠ it) (h3 : ∀ p ∈ X.pn ++ pins, p.1 ≠ it) : Inv X pins σ H { s with heap := h', toks := t' } := by
  have nit : ∀ b u, H b = some u → b ≠ it := fun b u e z => by rw [z, hn] at e; cases e
  refine I.step (g' := s.gens) (d' := s.drawn) (ch := [it]) (fun b hb => ?_) (fun b o _ _ hc e _ => k b o (fun z => hc (by simp [z])) e) (fun b o _ _ hc e _ => ⟨o.slots, k b o (fun z => hc (by simp [z])) e⟩) (fun _ _ _ _ n => n)
    (fun b o hc e => ⟨o, k b o (fun z => hc (by simp [z])) e⟩) (fun _ _ e => e) (fun _ _ _ e => e) (fun b ps e => ⟨#[], by rw [e]; simp⟩) (fun m hm => ?_) (fun b u e => ?_) I.bare
  · have e : b = it := by simpa using hb
    subst e
    exact ⟨h1, hL, h2, h3⟩
  · obtain ⟨o, es, ep, ho, r⟩ := hm
    exact ⟨o, es, ep, k _ o (Ne.symm hL) ho, r⟩
  · refine (I.hok b u e).stay (fun c v hc q => k c v ?_ q) (fun _ q => q) fun _ _ q => q
    rcases hc with z | z
    · rw [z]; exact nit b u e
    · exact nit c _ z
theorem Inv.tok (I : Inv X pins σ H s) (t : Nat) : Inv X pins σ H { s with toks := t } := I.un (h' := s.heap) (t' := t) Un.refl I.hok
theorem Inv.kept {t' : Nat} (I : Inv X pins σ H s) (k : ∀ b u, s.heap.get? b = some u → h'.get? b = some u) : Inv X pins σ H { s with heap := h', toks := t' } := I.un (Un.kept k) (I.hok.kept k)
theorem Inv.laid {a : Addr} {o : HO} {t' : Nat} (I : Inv X pins σ H s) (k : ∀ b u, s.heap.get? b = some u → h'.get? b = some u) (hp : s.heap.objs.size ≤ a) (new : ObjOk X.prog X.w (upd H a o) h' a o) :
    Inv X pins σ (upd H a o) { s with heap := h', toks := t' } := I.un (Un.laid k hp (I.hok.fresh hp)) (I.hok.laid k hp new)
theorem Inv.write {x e : Addr} {o : HO} {t' : Nat} (I : Inv X pins σ H s) (mu : Mut (H x)) (he : e = x ∨ H e = some (.own x)) (k : ∀ b u, b ≠ e → s.heap.get? b = some u → h'.get? b = some u) (heo : ∃ u, h'.get? e = some u)
    (new : ObjOk X.prog X.w (upd H x o) h' x o) : Inv X pins σ (upd H x o) { s with heap := h', toks := t' } := I.un (Un.write mu he k heo) (I.hok.write mu he k heo new)
theorem Inv.pins_of {pins' : List (Addr × Obj)} (I : Inv X pins σ H s) (h : ∀ p ∈ pins', s.heap.get? p.1 = some p.2 ∧ H p.1 = none ∧ p.1 ≠ X.env.locals ∧ p.1 ∉ X.fs ∧ ∀ v, p.2.data ≠ .cell v) : Inv X pins' σ H s :=
  ⟨I.ok, I.os, I.bare, I.base, I.loc, I.cell, I.free, I.freeC, fun p hp => (List.mem_append.mp hp).elim (fun z => I.pin p (List.mem_append_left _ z)) (h p), I.hok, I.len⟩

theorem nodup_ix {N : List Str} (hN : N.Nodup) {i j : Nat} {x : Str} (a : N[i]? = some x) (b : N[j]? = some x) : i = j := by
  obtain ⟨h1, e1⟩ := List.getElem?_eq_some_iff.mp a
  obtain ⟨h2, e2⟩ := List.getElem?_eq_some_iff.mp b
  exact (List.getElem_inj hN).mp (e1.trans e2.symm)
theorem store_ok2 {M : Model} {A : Around} {E : Value → Shared → Prop} {i : Nat} {x : Str} {v : V} {u : Value} {Q : Unit → Shared → Prop} (I : Inv X pins σ H s) (hN : X.N.Nodup) (hi : X.N[i]? = some x) (hx : Loc X.env.scope x) (r : RelV v u)
    (h : ∀ s', Inv X pins (σ.set i (some v)) H s' → (∃ a, Heap.SameBut a s.heap s'.heap ∧ (a = X.env.locals ∨ X.env.cells.lookup x = some a)) → Q () s') (hf : X.fn x = true ∨ X.env.scope.names.lookup x = some .local := by first | exact .inl rfl | exact .inr rfl | assumption) : wpAny M A (storeName X.env x u) Q E s := by
  obtain ⟨m, hn, hl⟩ := id I.loc
  have hcls : (X.env.scope.kind == .class || (X.env.scope.kind == .module && X.env.locals != X.env.globals)) = false := by rw [I.ok.kind]; rfl
  have hiσ : i < σ.length := by rw [I.len]; exact (List.getElem?_eq_some_iff.mp hi).1
  have cne := I.cne
  have tracked : ∀ {a : Addr} {h' : Heap}, (∃ o, s.heap.get? a = some o ∧ H a = none) → Heap.SameBut a s.heap h' → HOk X.prog X.w H h' := fun {a h'} ha hs b ob e => by
    obtain ⟨_, _, hfree⟩ := ha
    refine (I.hok b ob e).stay (fun c w' hc q => (hs.2 c ?_).trans q) (fun _ q => q) fun _ _ q => q
    rintro rfl
    rcases hc with rfl | hc
    · rw [hfree] at e; cases e
    · rw [hfree] at hc; cases hc
  rcases hx with hk | hk
  · refine wpAny_storeName_local hk hn (fun h' hn' hs => ?_) hcls
    obtain ⟨oL, _, _, hoL, _⟩ := id hn
    refine h _ ⟨I.ok, I.os, I.bare, ⟨fun b o e n hb hx => ?_, fun b o e n hb hx => ?_, I.base.free, fun b o e hx => ?_, I.base.tups, I.base.frzs, I.base.tbls⟩, ⟨_, hn', fun j y v' e1 e2 e3 => ?_⟩, fun y c e => ?_, I.free, I.freeC, fun p hp => ?_, tracked ⟨oL, hoL, I.free⟩ hs, by simpa using I.len⟩ ⟨_, hs, .inl rfl⟩
    · exact (hs.2 b (Nat.ne_of_lt (Nat.lt_of_lt_of_le (Heap.lt_size e) I.ok.above))).trans (I.base.keep b o e n hb hx)
    · obtain ⟨sl, e1⟩ := I.base.slot b o e n hb hx
      exact ⟨sl, (hs.2 b (Nat.ne_of_lt (Nat.lt_of_lt_of_le (Heap.lt_size e) I.ok.above))).trans e1⟩
    · obtain ⟨o', e1⟩ := I.base.there b o e hx
      exact ⟨o', (hs.2 b (Nat.ne_of_lt (Nat.lt_of_lt_of_le (Heap.lt_size e) I.ok.above))).trans e1⟩
    · by_cases hj : j = i
      · subst hj
        rw [hi] at e1; cases e1
        rw [List.getElem?_set_self hiσ] at e2
        cases e2
        exact ⟨u, r, .inl ⟨hk, by simp⟩⟩
      · rw [List.getElem?_set_ne (Ne.symm hj)] at e2
        obtain ⟨u', r', q⟩ := hl j y v' e1 e2 e3
        refine ⟨u', r', ?_⟩
        rcases q with ⟨k, e⟩ | ⟨k, c, e, z⟩
        · refine .inl ⟨k, ?_⟩
          have : y ≠ x := fun e => hj (nodup_ix hN e1 (e ▸ hi))
          simp [this, e]
        · exact .inr ⟨k, c, e, z.sameBut hs (cne y c e)⟩
    · obtain ⟨w', z⟩ := I.cell y c e
      exact ⟨w', z.sameBut hs (cne y c e)⟩
    · obtain ⟨e, n, ne, nf, d⟩ := I.pin p hp
      exact ⟨(hs.2 p.1 ne).trans e, n, ne, nf, d⟩
  · have hfn : X.fn x = true := by
      rcases hf with z | z
      · exact z
      · rw [z] at hk; cases hk
    obtain ⟨c, hc⟩ := I.ok.has x (.inl hk)
    obtain ⟨w', z⟩ := I.cell x c hc
    refine wpAny_storeName_cell I.ok.kind hk hc z (fun h' hc' hs => ?_)
    obtain ⟨oc, hoc, hocd⟩ := id z
    refine h { s with heap := h' } ⟨I.ok, I.os, I.bare, ⟨fun b o e n hb hx => ?_, fun b o e n hb hx => ?_, I.base.free, fun b o e hx => ?_, I.base.tups, I.base.frzs, I.base.tbls⟩, ⟨m, hn.sameBut hs (Ne.symm (cne x c hc)), fun j y v' e1 e2 e3 => ?_⟩, fun y c' e => ?_, I.free, I.freeC, fun p hp => ?_, tracked ⟨oc, hoc, I.freeC x c hc⟩ hs, by simpa using I.len⟩ ⟨c, hs, .inr hc⟩
    · exact (hs.2 b (Nat.ne_of_lt (Nat.lt_of_lt_of_le (Heap.lt_size e) (I.ok.cab x c hfn hc)))).trans (I.base.keep b o e n hb hx)
    · obtain ⟨sl, e1⟩ := I.base.slot b o e n hb hx
      exact ⟨sl, (hs.2 b (Nat.ne_of_lt (Nat.lt_of_lt_of_le (Heap.lt_size e) (I.ok.cab x c hfn hc)))).trans e1⟩
    · obtain ⟨o', e1⟩ := I.base.there b o e hx
      exact ⟨o', (hs.2 b (Nat.ne_of_lt (Nat.lt_of_lt_of_le (Heap.lt_size e) (I.ok.cab x c hfn hc)))).trans e1⟩
    · by_cases hj : j = i
      · subst hj
        rw [hi] at e1; cases e1
        rw [List.getElem?_set_self hiσ] at e2
        cases e2
        exact ⟨u, r, .inr ⟨.inl hk, c, hc, hc'⟩⟩
      · rw [List.getElem?_set_ne (Ne.symm hj)] at e2
        obtain ⟨u', r', q⟩ := hl j y v' e1 e2 e3
        refine ⟨u', r', ?_⟩
        rcases q with q | ⟨k, c', e, z'⟩
        · exact .inl q
        · refine .inr ⟨k, c', e, z'.sameBut hs ?_⟩
          rintro rfl
          exact hj (nodup_ix hN e1 (I.ok.inj _ _ _ e hc ▸ hi))
    · by_cases hcc : c' = c
      · subst hcc; exact ⟨_, hc'⟩
      · obtain ⟨w2, z2⟩ := I.cell y c' e
        exact ⟨w2, z2.sameBut hs hcc⟩
    · obtain ⟨e, n, ne, nf, d⟩ := I.pin p hp
      refine ⟨(hs.2 p.1 ?_).trans e, n, ne, nf, d⟩
      intro q
      rw [q, hoc] at e
      have q' : oc = p.2 := Option.some.inj e
      exact d w' (by rw [← q']; exact hocd)
theorem store_ok {M : Model} {A : Around} {E : Value → Shared → Prop} {i : Nat} {x : Str} {v : V} {u : Value} {Q : Unit → Shared → Prop} (I : Inv X pins σ H s) (hN : X.N.Nodup) (hi : X.N[i]? = some x) (hx : Loc X.env.scope x) (r : RelV v u)
    (h : ∀ s', Inv X pins (σ.set i (some v)) H s' → Q () s') (hf : X.fn x = true ∨ X.env.scope.names.lookup x = some .local := by first | exact .inl rfl | exact .inr rfl | assumption) : wpAny M A (storeName X.env x u) Q E s :=
  store_ok2 I hN hi hx r (fun s' I' _ => h s' I') hf
theorem Inv.call' {s' : Shared} {ch : List Addr} (I : Inv X pins σ H s) (ho : s'.os = s.os) (u : Un (frs X.stack) ch H H' s.heap s'.heap) (hok : HOk X.prog X.w H' s'.heap) (hg : AllBare s'.gens)
    (hch : ∀ b ∈ ch, (b ∈ X.ex ∨ X.s₀.heap.objs.size ≤ b) ∧ b ≠ X.env.locals ∧ (∀ x c, X.env.cells.lookup x = some c → c ≠ b) ∧ ∀ p ∈ X.pn ++ pins, p.1 ≠ b) : Inv X pins σ H' s' := by
  obtain ⟨h', g', d', t', o'⟩ := s'
  have e : o' = s.os := ho
  subst e
  exact I.call (g' := g') (t' := t') (d' := d') u hok hg hch
end
abbrev XK := Value → Option Addr → Hp → Prop
abbrev St := List (Option V)
abbrev VK := V → Hp → Prop
abbrev TE := St → Hp → VK → Prop
abbrev TT := St → Hp → (Bool → Hp → Prop) → Prop
abbrev TA := St → Hp → (List V → Hp → Prop) → Prop
structure Ends where
  nx : St → Hp → Prop
  rt : VK
  bk : St → Hp → Prop := fun _ _ => False
  ct : St → Hp → Prop := fun _ _ => False
abbrev TS := Ends → St → Hp → Prop

def EP (X : Cx) (pins : List (Addr × Obj)) (σ : St) (Q : VK) (u : Value) (s' : Shared) : Prop := ∃ v H', Inv X pins σ H' s' ∧ RelV v u ∧ Q v H'
def TP (X : Cx) (pins : List (Addr × Obj)) (σ : St) (Q : Bool → Hp → Prop) (b : Bool) (s' : Shared) : Prop := ∃ H', Inv X pins σ H' s' ∧ Q b H'
def AP (X : Cx) (pins : List (Addr × Obj)) (σ : St) (Q : List V → Hp → Prop) (us : List Value) (s' : Shared) : Prop := ∃ vs H', Inv X pins σ H' s' ∧ Vals vs us ∧ Q vs H'
def SP (X : Cx) (pins : List (Addr × Obj)) (D : Ends) (f : Flow) (s' : Shared) : Prop :=
  match f with
  | .next => ∃ σ' H', Inv X pins σ' H' s' ∧ D.nx σ' H'
  | .brk => ∃ σ' H', Inv X pins σ' H' s' ∧ D.bk σ' H'
  | .cont => ∃ σ' H', Inv X pins σ' H' s' ∧ D.ct σ' H'
  | .ret u => ∃ v σ' H', Inv X pins σ' H' s' ∧ RelV v u ∧ D.rt v H'

def PE (X : Cx) (e : Expr) (t : TE) : Prop :=
  ∀ (pins : List (Addr × Obj)) (s : Shared) (σ : St) (H : Hp) (Q : VK), Inv X pins σ H s → t σ H Q → wpAny (model X.prog X.w) X.A (eval e X.env) (EP X pins σ Q) X.xe s
def PT (X : Cx) (e : Expr) (t : TT) : Prop :=
  ∀ (pins : List (Addr × Obj)) (s : Shared) (σ : St) (H : Hp) (Q : Bool → Hp → Prop), Inv X pins σ H s → t σ H Q → wpAny (model X.prog X.w) X.A (isTrue e X.env (eval e X.env)) (TP X pins σ Q) X.xe s
def PW (X : Cx) (e : Expr) (t : TT) : Prop :=
  ∀ (whole : Sem Value) (pins : List (Addr × Obj)) (s : Shared) (σ : St) (H : Hp) (Q : Bool → Hp → Prop), Inv X pins σ H s → t σ H Q → wpAny (model X.prog X.w) X.A (isTrue e X.env whole) (TP X pins σ Q) X.xe s
theorem PW.pt {X : Cx} {e : Expr} {t : TT} (h : PW X e t) : PT X e t := h _
def PA (X : Cx) (es : List Expr) (t : TA) : Prop :=
  ∀ (pos : Pos) (pins : List (Addr × Obj)) (s : Shared) (σ : St) (H : Hp) (Q : List V → Hp → Prop), Inv X pins σ H s → t σ H Q → wpAny (model X.prog X.w) X.A (spliced (backTo pos (starEach es X.env))) (AP X pins σ Q) X.xe s
def PS (X : Cx) (st : Stmt) (t : TS) : Prop :=
  ∀ (pins : List (Addr × Obj)) (s : Shared) (σ : St) (H : Hp) (D : Ends), Inv X pins σ H s → t D σ H → wpAny (model X.prog X.w) X.A (exec st X.env) (SP X pins D) X.xe s
def PSs (X : Cx) (st : List Stmt) (t : TS) : Prop :=
  ∀ (pins : List (Addr × Obj)) (s : Shared) (σ : St) (H : Hp) (D : Ends), Inv X pins σ H s → t D σ H → wpAny (model X.prog X.w) X.A (execs st X.env) (SP X pins D) X.xe s
theorem thn {α : Type} {t : Sem α} {Q Q' : α → Shared → Prop} {M : Model} {A : Around} {E : Value → Shared → Prop} {s : Shared} (h : wpAny M A t Q E s) (hQ : ∀ a s, Q a s → Q' a s) : wpAny M A t Q' E s := wpAny_mono h hQ fun _ _ x => x
end L2

namespace L2
open PySem PySem.Spec PyProof.Rows
section
variable {X : Cx}
def tVar (i : Nat) : TE := fun σ H Q => ∃ v, σ[i]? = some (some v) ∧ Q v H
def tC (v : V) : TE := fun _ H Q => Q v H
theorem pe_var {i : Nat} {x : Str} {pos : Pos} (hN : X.N[i]? = some x) (hv : Vis X.env.scope x) (hd : (x == ("__debug__" : Str)) = false := by decide) (hcd : (x == ("__classdict__" : Str)) = false := by decide) : PE X (.Name x pos) (tVar i) := by
  intro pins s σ H Q I h
  obtain ⟨v, e, h⟩ := h
  obtain ⟨m, hn, hl⟩ := I.loc
  obtain ⟨u, r, l⟩ := hl i x v hN e hv
  have fin : EP X pins σ Q u s := ⟨v, H, I, r, h⟩
  rcases l with ⟨hk, hm⟩ | ⟨hk, c, hc, hcell⟩
  · exact wpAny_Name (wpAny_loadName_local I.ok.kind hk hn hm fin) hd
  · rcases hk with hk | hk
    · exact wpAny_Name (wpAny_loadName_cell I.ok.kind hk hc hcell fin) hd
    · exact wpAny_Name (wpAny_loadName_free I.ok.kind hk hc hcell fin hcd) hd
theorem pe_int {i j pos} : PE X (.Constant (.int i) j pos) (tC (.int i)) := fun _ _ _ H _ I h => wpAny_Constant_int ⟨.int i, H, I.tok _, ⟨_, rfl⟩, h⟩
theorem pe_bl {b j pos} : PE X (.Constant (.bool b) j pos) (tC (.bl b)) := fun _ _ _ H _ I h => Constant_bool ⟨.bl b, H, I, rfl, h⟩
theorem pe_non {j pos} : PE X (.Constant .none j pos) (tC .non) := fun _ _ _ H _ I h => Constant_none ⟨.non, H, I, rfl, h⟩
theorem pe_str {x j pos} : PE X (.Constant (.str x) j pos) (tC (.str x)) := fun _ _ _ H _ I h => Calls.Constant_str ⟨.str x, H, I.tok _, ⟨_, rfl⟩, h⟩
def Gl (X : Cx) (x : Str) : Prop := X.env.kindOf x = some .globalImplicit
theorem ld_glob {E : Value → Shared → Prop} {pins : List (Addr × Obj)} {s : Shared} {σ : St} {H : Hp} {x : Str} {u : Value} {pos : Pos} {Q : Value → Shared → Prop} (I : Inv X pins σ H s) (hg : Gl X x) (hm : X.mg x = some u) (h : Q u s)
    (hd : (x == ("__debug__" : Str)) = false := by decide) : wpAny (model X.prog X.w) X.A (eval (.Name x pos) X.env) Q E s :=
  Calls.Name_function_global I.ok.kind hg (Calls.loadGlobal_global (by rw [I.ok.glob]; exact I.mod.glob.keeps I.bk) hm h) hd
theorem ld_blt {E : Value → Shared → Prop} {pins : List (Addr × Obj)} {s : Shared} {σ : St} {H : Hp} {x : Str} {u : Value} {pos : Pos} {Q : Value → Shared → Prop} (I : Inv X pins σ H s) (hg : Gl X x) (hm : X.mg x = none) (hv : bootBuiltins x = some u) (h : Q u s)
    (hn : x ≠ "__name__" := by decide) (hd : (x == ("__debug__" : Str)) = false := by decide) : wpAny (model X.prog X.w) X.A (eval (.Name x pos) X.env) Q E s := by
  obtain ⟨mb, h1, h2⟩ := I.mod.blt
  exact Calls.Name_function_global I.ok.kind hg (Calls.loadGlobal_builtin (by rw [I.ok.glob]; exact I.mod.glob.keeps I.bk) hm (by rw [I.ok.blt]; exact h1.keeps I.bk) ((h2 x hn).trans hv) h) hd
theorem pe_glob {x : Str} {v : V} {u : Value} {pos : Pos} (hg : Gl X x) (hm : X.mg x = some u) (r : RelV v u) (hd : (x == ("__debug__" : Str)) = false := by decide) : PE X (.Name x pos) (tC v) :=
  fun _ _ _ H _ I h => ld_glob I hg hm ⟨v, H, I, r, h⟩ hd
theorem pe_bltn {x : Str} {v : V} {u : Value} {pos : Pos} (hg : Gl X x) (hm : X.mg x = none) (hv : bootBuiltins x = some u) (r : RelV v u) (hn : x ≠ "__name__" := by decide) (hd : (x == ("__debug__" : Str)) = false := by decide) : PE X (.Name x pos) (tC v) :=
  fun _ _ _ H _ I h => ld_blt I hg hm hv ⟨v, H, I, r, h⟩ hn hd
variable {a b : Expr} {ta tb : TE} {pos : Pos}
def tB (t : TE) : TT := fun σ H Q => t σ H fun x H1 => ∃ c, x = .bl c ∧ Q c H1
theorem pt_val {e : Expr} {t : TE} (h : PE X e t) (he : ∀ whole, isTrue e X.env whole = (do let v ← whole; standAt e.pos; holding [v] (truthy v)) := by intro _; rfl) : PT X e (tB t) := by
  intro pins s σ H Q I hw
  refine isTrue_plain (thn (h pins s σ H _ I hw) fun v s1 ⟨x, H1, I1, r1, q1⟩ => ?_) (he _)
  obtain ⟨d, rfl, q⟩ := q1
  cases r1
  exact wpAny_truthy_bool ⟨H1, I1, q⟩
variable {tA tB' : TT} {rest : List Expr}
def tAnd (t u : TT) : TT := fun σ H Q => t σ H fun c H1 => if c = true then u σ H1 Q else Q false H1
def tOr (t u : TT) : TT := fun σ H Q => t σ H fun c H1 => if c = true then Q true H1 else u σ H1 Q
def tNot (t : TT) : TT := fun σ H Q => t σ H fun c H1 => Q (!c) H1
theorem pw_and1 (ha : PT X a tA) : PW X (.BoolOp .And [a] pos) tA := by
  intro wh pins s σ H Q I h
  refine isTrue_and (thn (ha pins s σ H Q I h) fun c s1 e => ?_)
  cases c with
  | true => exact isTrue_and_nil e
  | false => exact e
theorem pw_or1 (ha : PT X a tA) : PW X (.BoolOp .Or [a] pos) tA := by
  intro wh pins s σ H Q I h
  refine isTrue_or (thn (ha pins s σ H Q I h) fun c s1 e => ?_)
  cases c with
  | false => exact isTrue_or_nil e
  | true => exact e
theorem pw_and (ha : PT X a tA) (hb : PW X (.BoolOp .And (b :: rest) pos) tB') : PW X (.BoolOp .And (a :: b :: rest) pos) (tAnd tA tB') := by
  intro wh pins s σ H Q I h
  refine isTrue_and (thn (ha pins s σ H _ I h) fun c s1 ⟨H1, I1, q1⟩ => ?_)
  cases c with
  | true => exact hb wh pins s1 σ H1 Q I1 q1
  | false => exact ⟨H1, I1, q1⟩
theorem pw_or (ha : PT X a tA) (hb : PW X (.BoolOp .Or (b :: rest) pos) tB') : PW X (.BoolOp .Or (a :: b :: rest) pos) (tOr tA tB') := by
  intro wh pins s σ H Q I h
  refine isTrue_or (thn (ha pins s σ H _ I h) fun c s1 ⟨H1, I1, q1⟩ => ?_)
  cases c with
  | true => exact ⟨H1, I1, q1⟩
  | false => exact hb wh pins s1 σ H1 Q I1 q1
theorem pt_not (ha : PT X a tA) : PT X (.UnaryOp .Not a pos) (tNot tA) := by
  intro pins s σ H Q I h
  exact isTrue_not (ha pins s σ H (fun c H1 => Q (!c) H1) I h)
def tAndV (ta tb : TE) : TE := fun σ H Q => ta σ H fun x H1 => ∃ c, x = .bl c ∧ if c = true then tb σ H1 Q else Q (.bl false) H1
def tNotV (ta : TE) : TE := fun σ H Q => ta σ H fun x H1 => ∃ c, x = .bl c ∧ Q (.bl (!c)) H1
theorem pe_one {op} {t : TE} (h : PE X a t) : PE X (.BoolOp op [a] pos) t := fun pins s σ H Q I hw => BoolOp_one (h pins s σ H Q I hw)
theorem pe_and (ha : PE X a ta) (hb : PE X (.BoolOp .And (b :: rest) pos) tb) : PE X (.BoolOp .And (a :: b :: rest) pos) (tAndV ta tb) := by
  intro pins s σ H Q I h
  refine BoolOp_and (thn (ha pins s σ H _ I h) fun v s1 ⟨x, H1, I1, r1, q1⟩ => ?_)
  obtain ⟨c, rfl, q1⟩ := q1
  cases r1
  refine wpAny_truthy_bool ?_
  cases c with
  | true => exact hb pins s1 σ H1 Q I1 q1
  | false => exact ⟨.bl false, H1, I1, rfl, q1⟩
theorem pe_not (ha : PE X a ta) : PE X (.UnaryOp .Not a pos) (tNotV ta) := by
  intro pins s σ H Q I h
  refine UnaryOp_ (thn (ha pins s σ H _ I h) fun v s1 ⟨x, H1, I1, r1, q1⟩ => ?_)
  obtain ⟨c, rfl, q1⟩ := q1
  cases r1
  exact not_of (wpAny_truthy_bool ⟨.bl (!c), H1, I1, rfl, q1⟩)
def tIf (t : TT) (ta tb : TE) : TE := fun σ H Q => t σ H fun c H1 => if c = true then ta σ H1 Q else tb σ H1 Q
theorem pe_ifExp {c : Expr} (hc : PT X c tA) (ha : PE X a ta) (hb : PE X b tb) : PE X (.IfExp c a b pos) (tIf tA ta tb) := by
  intro pins s σ H Q I h
  refine wpAny_IfExp (thn (hc pins s σ H _ I h) fun d s1 ⟨H1, I1, q1⟩ => ?_)
  cases d with
  | true => exact ha pins s1 σ H1 Q I1 q1
  | false => exact hb pins s1 σ H1 Q I1 q1
end
end L2

namespace L2
open PySem PySem.Spec PyProof.Rows
def SqL (K : PySem.W.Frag) (H : Hp) (a : Addr) (xs : List V) : Prop :=
  Rd H a (.lst xs) ∨
    ∃ (o : Obj) (its : Array Value) (n : Nat), K.lookup a = some o ∧ o.cls = .type "list" ∧ o.dict = none ∧ o.data = .seq its n ∧ its.size ≤ sizeLine ∧ Vals xs its.toList
def SqT (K : PySem.W.Frag) (H : Hp) (a : Addr) (xs : List V) : Prop :=
  Rd H a (.tup xs) ∨
    ∃ (o : Obj) (its : Array Value) (n : Nat), K.lookup a = some o ∧ o.cls = .type "tuple" ∧ o.data = .seq its n ∧ its.size ≤ sizeLine ∧ Vals xs its.toList
def absV : Value → Option V
  | .none => some .non
  | .bool b => some (.bl b)
  | .int i _ => some (.int i)
  | .str x _ => some (.str x)
  | .bytes b _ => some (.byt b)
  | .float b _ => some (.flt b)
  | .ref a => some (.ref a)
  | .type n => some (.ty n)
  | _ => none
theorem RelV.abs {x : V} {u : Value} (r : RelV x u) : absV u = some x := by
  cases x with
  | non => cases r; rfl
  | bl _ => cases r; rfl
  | int _ => obtain ⟨t, rfl⟩ := r; rfl
  | str _ => obtain ⟨t, rfl⟩ := r; rfl
  | byt _ => obtain ⟨t, rfl⟩ := r; rfl
  | flt _ => obtain ⟨t, rfl⟩ := r; rfl
  | ref _ => cases r; rfl
  | ty _ => cases r; rfl
theorem RelV.inj {x y : V} {u : Value} (r : RelV x u) (q : RelV y u) : x = y := Option.some.inj (r.abs.symm.trans q.abs)
theorem Vals.inj : ∀ {xs ys : List V} {us : List Value}, Vals xs us → Vals ys us → xs = ys
  | _, _, _, .nil, .nil => rfl
  | _, _, _, .cons r t, .cons r' t' => by rw [r.inj r', Vals.inj t t']
section
variable {X : Cx} {pins : List (Addr × Obj)} {σ : St} {H : Hp} {s : Shared} {a : Addr} {xs ys : List V}
theorem SqL.of {K : PySem.W.Frag} (h : H a = some (.lst xs)) : SqL K H a xs := .inl (.inl h)
theorem SqT.of {K : PySem.W.Frag} (h : H a = some (.tup xs)) : SqT K H a xs := .inl (.inl h)
theorem Inv.list (I : Inv X pins σ H s) (h : SqL X.K H a xs) : ∃ its : List Value, Vals xs its ∧ PlainL s.heap a its.toArray ∧ xs.length ≤ sizeLine := by
  rcases h with h | ⟨o, its, n, hk, hc, hd, hs, hz, r⟩
  · obtain ⟨z, its, n, r, e⟩ := h.ok I.hok
    exact ⟨its, r, ⟨_, n, e, rfl, rfl, rfl⟩, z⟩
  · refine ⟨its.toList, r, ⟨o, n, I.kIn a o hk, hc, hd, by simpa using hs⟩, ?_⟩
    have e := r.length
    simp only [Array.length_toList] at e
    omega
theorem Inv.tuple (I : Inv X pins σ H s) (h : SqT X.K H a xs) : ∃ its : List Value, Vals xs its ∧ IsTup s.heap a its.toArray ∧ xs.length ≤ sizeLine := by
  rcases h with h | ⟨o, its, n, hk, hc, hs, hz, r⟩
  · obtain ⟨z, its, r, p⟩ := h.ok I.hok
    exact ⟨its, r, p.tup, z⟩
  · refine ⟨its.toList, r, ⟨o, I.kIn a o hk, hc, n, by simpa using hs⟩, ?_⟩
    have e := r.length
    simp only [Array.length_toList] at e
    omega
theorem Inv.list_inj (I : Inv X pins σ H s) (h : SqL X.K H a xs) (h' : SqL X.K H a ys) : xs = ys := by
  obtain ⟨its, r, ⟨o, n, e, _, _, d⟩, _⟩ := I.list h
  obtain ⟨its', r', ⟨o', n', e', _, _, d'⟩, _⟩ := I.list h'
  rw [e] at e'; cases e'
  rw [d] at d'
  injection d' with d1 _
  have : its = its' := by simpa using congrArg Array.toList d1
  subst this
  exact r.inj r'
theorem Inv.tuple_inj (I : Inv X pins σ H s) (h : SqT X.K H a xs) (h' : SqT X.K H a ys) : xs = ys := by
  obtain ⟨its, r, ⟨o, e, _, n, d⟩, _⟩ := I.tuple h
  obtain ⟨its', r', ⟨o', e', _, n', d'⟩, _⟩ := I.tuple h'
  rw [e] at e'; cases e'
  rw [d] at d'
  injection d' with d1 _
  have : its = its' := by simpa using congrArg Array.toList d1
  subst this
  exact r.inj r'
end
abbrev Cx.wish (X : Cx) (E : Value → Shared → Prop) : Cx := { X with xe := E }
abbrev Cx.nox (X : Cx) : Cx := X.wish fun _ _ => False
theorem Cx.Ok.wish {X : Cx} (ok : X.Ok) (E : Value → Shared → Prop) : (X.wish E).Ok :=
  ⟨ok.mod, ok.kind, ok.glob, ok.blt, ok.above, ok.inj, ok.has, ok.cab, ok.hd, ok.frames, ok.stk, ok.exf, ok.bs, ok.bsz, ok.noex, ok.exfs, ok.funs, ok.frf⟩
theorem Cx.Ok.unwish {X : Cx} {E : Value → Shared → Prop} (ok : (X.wish E).Ok) : X.Ok :=
  ⟨ok.mod, ok.kind, ok.glob, ok.blt, ok.above, ok.inj, ok.has, ok.cab, ok.hd, ok.frames, ok.stk, ok.exf, ok.bs, ok.bsz, ok.noex, ok.exfs, ok.funs, ok.frf⟩
section
variable {X : Cx} {pins : List (Addr × Obj)} {σ : St} {H : Hp} {s : Shared} {E : Value → Shared → Prop}
theorem Inv.wish (I : Inv X pins σ H s) (E : Value → Shared → Prop) : Inv (X.wish E) pins σ H s := ⟨I.ok.wish E, I.os, I.bare, I.base, I.loc, I.cell, I.free, I.freeC, I.pin, I.hok, I.len⟩
theorem Inv.unwish (I : Inv (X.wish E) pins σ H s) : Inv X pins σ H s := ⟨I.ok.unwish, I.os, I.bare, I.base, I.loc, I.cell, I.free, I.freeC, I.pin, I.hok, I.len⟩
theorem SP.unwish {D : Ends} {f : Flow} {s' : Shared} (h : SP (X.wish E) pins D f s') : SP X pins D f s' := by
  cases f with
  | next => obtain ⟨σ', H', I, q⟩ := h; exact ⟨σ', H', I.unwish, q⟩
  | brk => obtain ⟨σ', H', I, q⟩ := h; exact ⟨σ', H', I.unwish, q⟩
  | cont => obtain ⟨σ', H', I, q⟩ := h; exact ⟨σ', H', I.unwish, q⟩
  | ret u => obtain ⟨v, σ', H', I, r, q⟩ := h; exact ⟨v, σ', H', I.unwish, r, q⟩
theorem PSs.nox {st : List Stmt} {t : TS} (h : PSs X.nox st t) : PSs X st t := fun pins s σ H D I hw =>
  wpAny_mono (h pins s σ H D (I.wish _) hw) (fun _ _ q => q.unwish) fun _ _ z => False.elim z
end
section
variable {X : Cx} {st : Stmt} {rest : List Stmt} {t u : TS} {e : Expr} {te : TE} {pos : Pos}
def tNext : TS := fun D σ H => D.nx σ H
def tSeq (t u : TS) : TS := fun D σ H => t { D with nx := u D } σ H
theorem pss_nil : PSs X [] tNext := fun _ _ σ H _ I h => wpAny_execs_nil ⟨σ, H, I, h⟩
theorem pss_cons (h1 : PS X st t) (h2 : PSs X rest u) : PSs X (st :: rest) (tSeq t u) := by
  intro pins s σ H D I h
  refine wpAny_execs_cons (thn (h1 pins s σ H { D with nx := u D } I h) fun f s1 q => ?_)
  cases f with
  | next =>
    obtain ⟨σ', H', I', q⟩ := q
    exact h2 pins s1 σ' H' D I' q
  | ret v => exact q
  | brk => exact q
  | cont => exact q
theorem pss_one (h1 : PS X st t) : PSs X [st] t := by
  intro pins s σ H D I h
  refine wpAny_execs_cons (thn (h1 pins s σ H D I h) fun f s1 q => ?_)
  cases f with
  | next => exact wpAny_execs_nil q
  | ret v => exact q
  | brk => exact q
  | cont => exact q
def tBreak : TS := fun D σ H => D.bk σ H
theorem ps_break : PS X (.Break pos) tBreak := fun _ _ σ H _ I h => wpAny_Break ⟨σ, H, I, h⟩
theorem Inv.quiet {pins : List (Addr × Obj)} {σ : St} {H : Hp} {s : Shared} (I : Inv X pins σ H s) : interactive X.env = false := by simp [interactive, I.ok.kind]
def tDrop (te : TE) : TS := fun D σ H => te σ H fun _ H1 => D.nx σ H1
theorem ps_expr (he : PE X e te) (hs : swapsWith e none pos.line X.env = pure false := by rfl) : PS X (.Expr e pos) (tDrop te) := by
  intro pins s σ H D I h
  exact wpAny_Expr_any (thn (he pins s σ H _ I h) fun v s1 ⟨x, H1, I1, r1, q1⟩ => ⟨σ, H1, I1, q1⟩) I.quiet hs
def tRet (te : TE) : TS := fun D σ H => te σ H D.rt
theorem ps_ret (he : PE X e te) : PS X (.Return (some e) pos) (tRet te) := by
  intro pins s σ H D I h
  exact wpAny_Return_some (thn (he pins s σ H _ I h) fun v s1 ⟨x, H1, I1, r1, q1⟩ => ⟨x, σ, H1, I1, r1, q1⟩)
def tIfS (c : TT) (t u : TS) : TS := fun D σ H => c σ H fun b H1 => if b = true then t D σ H1 else u D σ H1
theorem ps_if {c : Expr} {a b : List Stmt} {tc : TT} (hc : PT X c tc) (ha : PSs X a t) (hb : PSs X b u) : PS X (.If c a b pos) (tIfS tc t u) := by
  intro pins s σ H D I h
  refine wpAny_If (thn (hc pins s σ H _ I h) fun d s1 ⟨H1, I1, q1⟩ => ?_)
  cases d with
  | true => exact ha pins s1 σ H1 D I1 q1
  | false => exact hb pins s1 σ H1 D I1 q1
end
abbrev TG := V → St → Hp → (St → Hp → Prop) → Prop
abbrev TGs := List V → St → Hp → (St → Hp → Prop) → Prop
def PG (X : Cx) (target : Expr) (t : TG) : Prop :=
  ∀ (pins : List (Addr × Obj)) (s : Shared) (σ : St) (H : Hp) (v : V) (u : Value) (Q : St → Hp → Prop), Inv X pins σ H s → RelV v u → t v σ H Q →
    wpAny (model X.prog X.w) X.A (assign target X.env u) (fun _ s' => ∃ σ' H', Inv X pins σ' H' s' ∧ Q σ' H') X.xe s
def PGs (X : Cx) (ts : List Expr) (t : TGs) : Prop :=
  ∀ (pins : List (Addr × Obj)) (s : Shared) (σ : St) (H : Hp) (vs : List V) (us : List Value) (Q : St → Hp → Prop), Inv X pins σ H s → Vals vs us → t vs σ H Q →
    wpAny (model X.prog X.w) X.A (assignInOrder ((assignEach ts X.env).map (·.2)) us) (fun _ s' => ∃ σ' H', Inv X pins σ' H' s' ∧ Q σ' H') X.xe s
abbrev TSet := V → V → V → Hp → (Hp → Prop) → Prop
def PSet (X : Cx) (t : TSet) : Prop :=
  ∀ (pins : List (Addr × Obj)) (s : Shared) (σ : St) (H : Hp) (o i v : V) (ov iv u : Value) (Q : Hp → Prop), Inv X pins σ H s → RelV o ov → RelV i iv → RelV v u → t o i v H Q →
    wpAny (model X.prog X.w) X.A (setItem ov iv u) (fun _ s' => ∃ H', Inv X pins σ H' s' ∧ Q H') X.xe s
section
variable {X : Cx} {pos : Pos}
def gName (i : Nat) : TG := fun v σ H Q => Q (σ.set i (some v)) H
theorem pg_name {i : Nat} {x : Str} (hN : X.N.Nodup) (hi : X.N[i]? = some x) (hx : Loc X.env.scope x) (hf : X.fn x = true ∨ X.env.scope.names.lookup x = some .local := by first | exact .inl rfl | exact .inr rfl | assumption) : PG X (.Name x pos) (gName i) := by
  intro pins s σ H v u Q I r h
  exact wpAny_assign_Name (store_ok I hN hi hx r (fun s' I' => ⟨_, H, I', h⟩) hf)
def gNil : TGs := fun vs σ H Q => vs = [] ∧ Q σ H
def gCons (t : TG) (u : TGs) : TGs := fun vs σ H Q => ∃ v r, vs = v :: r ∧ t v σ H fun σ' H' => u r σ' H' Q
theorem pgs_nil : PGs X [] gNil := by
  intro pins s σ H vs us Q I r h
  obtain ⟨e, h⟩ := h
  subst e
  cases r
  exact assignInOrder_nil ⟨σ, H, I, h⟩
theorem pgs_cons {e : Expr} {es : List Expr} {t : TG} {u : TGs} (h1 : PG X e t) (h2 : PGs X es u)
    (hs : (assignEach (e :: es) X.env).map (·.2) = assign e X.env :: (assignEach es X.env).map (·.2) := by rfl) : PGs X (e :: es) (gCons t u) := by
  intro pins s σ H vs us Q I r h
  obtain ⟨v, vr, e1, h⟩ := h
  subst e1
  cases r with
  | cons r rr =>
    rw [hs]
    refine assignInOrder_cons (thn (h1 pins s σ H _ _ _ I r h) fun _ s1 ⟨σ1, H1, I1, q1⟩ => ?_)
    exact h2 pins s1 σ1 H1 _ _ Q I1 rr q1
def gTup (K : PySem.W.Frag) (n : Nat) (t : TGs) : TG := fun v σ H Q => ∃ a xs, v = .ref a ∧ SqT K H a xs ∧ xs.length = n ∧ t xs σ H Q
theorem pg_tup {es : List Expr} {k : Nat} {t : TGs} {n : Nat} (hc : X.calm = true) (h : PGs X es t)
    (hn : (assignEach es X.env).length = n := by rfl) (hst : (assignEach es X.env).findIdx? (·.1) = none := by rfl) : PG X (.Tuple es k pos) (gTup X.K n t) := by
  intro pins s σ H v u Q I r hw
  obtain ⟨a, xs, e1, hq, hl, hw⟩ := hw
  subst e1
  cases r
  obtain ⟨its, rv, ht, hz⟩ := I.tuple hq
  refine assign_Tuple_tuple (I.ok.hd hc) ht (by simp [hn, ← hl, rv.length]) hst fun h' hx => ?_
  have I1 : Inv X pins σ H { s with heap := h' } := I.kept (t' := s.toks) fun b o e => hx b o (Nat.ne_of_lt (Heap.lt_size e)) e
  exact h pins _ σ H xs _ Q I1 (by simpa using rv) hw
def gSub (to ti : TE) (t : TSet) : TG := fun v σ H Q => to σ H fun o H1 => ti σ H1 fun i H2 => t o i v H2 fun H3 => Q σ H3
theorem pg_sub {o i : Expr} {to ti : TE} {t : TSet} (ho : PE X o to) (hi : PE X i ti) (hs : PSet X t)
    (ha : ∀ v, assign (.Subscript o i pos) X.env v = (do
      let ov ← holding [v] (eval o X.env)
      let iv ← holding [v, ov] (eval i X.env)
      standAt pos
      holding [v, ov, iv] (setItem ov iv v)
      release [v, ov, iv] []) := by intro _; rfl) : PG X (.Subscript o i pos) (gSub to ti t) := by
  intro pins s σ H v u Q I r h
  rw [ha]
  refine wpAny_bind (wpAny_holding (thn (ho pins s σ H _ I h) fun ov s1 ⟨x, H1, I1, r1, q1⟩ => ?_))
  refine wpAny_bind (wpAny_holding (thn (hi pins s1 σ H1 _ I1 q1) fun iv s2 ⟨y, H2, I2, r2, q2⟩ => ?_))
  refine wpAny_bind (wpAny_standAt (wpAny_bind (wpAny_holding (thn (hs pins s2 σ H2 x y v ov iv u _ I2 r1 r2 r q2) fun _ s3 ⟨H3, I3, q3⟩ => ?_))))
  exact wpAny_release ⟨σ, H3, I3, q3⟩
def tAsg (te : TE) (g : TG) : TS := fun D σ H => te σ H fun x H1 => g x σ H1 D.nx
theorem ps_asg {tg e : Expr} {te : TE} {g : TG} (he : PE X e te) (hg : PG X tg g) (hs : swapsWithSole [tg] e pos.line X.env = pure false := by rfl) (hw : swappedStores [tg] e X.env = pure none := by rfl)
    (h1 : (assignEach [tg] X.env).map (·.2) = [assign tg X.env] := by rfl) : PS X (.Assign [tg] e pos) (tAsg te g) := by
  intro pins s σ H D I h
  refine wpAny_Assign_stores (thn (he pins s σ H _ I h) fun v s1 ⟨x, H1, I1, r1, q1⟩ => ?_) hs hw
  rw [h1]
  exact thn (hg pins s1 σ H1 x v _ I1 r1 q1) fun _ s2 q => q
theorem ps_set {i : Nat} {x : Str} {e : Expr} {te : TE} {pos' : Pos} (hN : X.N.Nodup) (hi : X.N[i]? = some x) (hx : Loc X.env.scope x) (he : PE X e te) (hs : swapsWith e (some (.Name x pos')) pos.line X.env = pure false := by rfl) (hf : X.fn x = true ∨ X.env.scope.names.lookup x = some .local := by first | exact .inl rfl | exact .inr rfl | assumption) :
    PS X (.Assign [.Name x pos'] e pos) (tAsg te (gName i)) := by
  intro pins s σ H D I h
  refine wpAny_Assign_Name (thn (he pins s σ H _ I h) fun v s1 ⟨y, H1, I1, r1, q1⟩ => ?_) hs
  exact store_ok I1 hN hi hx r1 (fun s2 I2 => ⟨_, H1, I2, q1⟩) hf
def tPar (i j : Nat) (ta : TA) : TS := fun D σ H => ta σ H fun vs H1 => ∃ v w, vs = [v, w] ∧ D.nx ((σ.set i (some v)).set j (some w)) H1
theorem ps_par {i j : Nat} {x y : Str} {a b : Expr} {ta : TA} {px py pt : Pos} {kt k2 pt2} (hc : X.calm = true) (hN : X.N.Nodup) (hi : X.N[i]? = some x) (hj : X.N[j]? = some y) (hij : i ≠ j)
    (hx : X.env.scope.names.lookup x = some .local) (hy : X.env.scope.names.lookup y = some .local) (ha : PA X [a, b] ta)
    (hw : swappedStores [.Tuple [.Name x px, .Name y py] kt pt] (.Tuple [a, b] k2 pt2) X.env = pure (some [x, y]))
    (hs : swapsWithSole [.Tuple [.Name x px, .Name y py] kt pt] (.Tuple [a, b] k2 pt2) pos.line X.env = pure false := by rfl) :
    PS X (.Assign [.Tuple [.Name x px, .Name y py] kt pt] (.Tuple [a, b] k2 pt2) pos) (tPar i j ta) := by
  intro pins s σ H D I h
  rw [exec_Assign_arm]
  refine wpAny_bind (wpAny_standAt ?_)
  rw [hs]
  refine wpAny_bind (wpAny_pure ?_)
  rw [if_neg (by decide)]
  refine wpAny_bind (Tuple_ (thn (ha _ pins s σ H _ I h) fun us s1 ⟨vs, H1, I1, r1, q1⟩ => ?_))
  obtain ⟨v, w, e1, q1⟩ := q1
  subst e1
  obtain ⟨u1, u2, rfl, rv, rw'⟩ : ∃ u1 u2, us = [u1, u2] ∧ RelV v u1 ∧ RelV w u2 := by
    cases r1 with
    | cons p q =>
      cases q with
      | cons p' q' =>
        cases q'
        exact ⟨_, _, rfl, p, p'⟩
  refine wpAny_newObj_type ?_ (by show 2 ≤ sizeLine; decide)
  have I2 : Inv X pins σ H1 { s1 with heap := s1.heap.push { cls := .type "tuple", data := .seq [u1, u2].toArray } } := I1.kept (t' := s1.toks) fun b o e => Heap.get?_push_of_some _ e
  rw [hw]
  refine wpAny_bind (wpAny_pure ?_)
  show wpAny (model X.prog X.w) X.A (do rule "assign.swapped-stores"; let items ← unpackItems (.ref s1.heap.objs.size) 2 none; assignInOrder [fun v => bindName X.env y v, fun v => bindName X.env x v] items.reverse; pure Flow.next) _ _ _
  refine wpAny_bind (wpAny_rule (wpAny_bind (unpackItems_tuple (items := #[u1, u2]) (I.ok.hd hc) (IsTup.new s1.heap _) fun h' hx' => ?_)))
  have I3 := I2.kept (h' := h') (t' := s1.toks) fun b o e => hx' b o (Nat.ne_of_lt (Heap.lt_size e)) e
  show wpAny _ _ (assignInOrder [fun v => bindName X.env y v, fun v => bindName X.env x v] [u2, u1] >>= fun _ => pure Flow.next) _ _ _
  refine wpAny_bind (assignInOrder_cons (wpAny_bindName (store_ok I3 hN hj (.inl hy) rw' (fun s2 I4 => ?_) (.inr hy))))
  refine assignInOrder_cons (wpAny_bindName (store_ok I4 hN hi (.inl hx) rv (fun s3 I5 => assignInOrder_nil (wpAny_pure ?_)) (.inr hx)))
  rw [List.set_comm _ _ (Ne.symm hij)] at I5
  exact ⟨_, H1, I5, q1⟩
end
section
variable {X : Cx} {pos : Pos}
end
structure It where
  go : Nat → Hp → Prop
  yld : Nat → Hp → V → Hp → Prop
  stop : Nat → Hp → Prop
def FpOk (X : Cx) (pins : List (Addr × Obj)) (H : Hp) (b : Addr) : Prop :=
  H b = none ∧ b ≠ X.env.locals ∧ b ∉ X.fs ∧ (b ∈ X.ex ∨ X.s₀.heap.objs.size ≤ b) ∧ (∀ x c, X.env.cells.lookup x = some c → c ≠ b) ∧ ∀ p ∈ X.pn ++ pins, p.1 ≠ b
theorem Inv.fpOk {X : Cx} {pins : List (Addr × Obj)} {σ : St} {H H' : Hp} {s : Shared} {b : Addr} (I : Inv X pins σ H s) (hb : s.heap.objs.size ≤ b) (hn : H' b = none) : FpOk X pins H' b := by
  refine ⟨hn, Nat.ne_of_gt (Nat.lt_of_lt_of_le I.lt hb), I.nofs hb, .inr (Nat.le_trans I.sz hb), fun x c e z => ?_, fun p hp z => ?_⟩
  · obtain ⟨v, q⟩ := I.cell x c e
    exact absurd (Nat.lt_of_lt_of_le q.lt (by rw [z]; exact hb)) (Nat.lt_irrefl _)
  · exact absurd (Nat.lt_of_lt_of_le (Heap.lt_size (I.pin p hp).1) (by rw [z]; exact hb)) (Nat.lt_irrefl _)
structure Turn (P : Program) (w : World) (K : PySem.W.Frag) (tg : Expr) (J : It) (fp : List Addr) (it : Addr) (tn : Nat → Heap → Prop) : Prop where
  mem : it ∈ fp
  obj : ∀ i h, tn i h → ∀ b ∈ fp, ∃ o, h.get? b = some o ∧ ∀ v, o.data ≠ .cell v
  keep : ∀ i h h', tn i h → (∀ b ∈ fp, ∀ o, h.get? b = some o → h'.get? b = some o) → tn i h'
  item : ∀ (X : Cx), X.prog = P → X.w = w → X.K = K → X.calm = true → ∀ (i : Nat) (pins : List (Addr × Obj)) (s : Shared) (σ : St) (H : Hp) (E : Value → Shared → Prop), Inv X pins σ H s → (∀ b ∈ fp, FpOk X pins H b) → tn i s.heap → J.go i H →
    wpAny (model P w) X.A (pyNext (.ref it)) (fun r s1 => ∃ u, r = some u ∧
      wpAny (model P w) X.A (letOwnedTupleGo tg (.ref it) u) (fun _ s2 => ∃ x H', Inv X pins σ H' s2 ∧ RelV x u ∧ J.yld i H x H' ∧ tn (i + 1) s2.heap ∧ ∀ b ∈ fp, H' b = none) E s1) E s
  done : ∀ (X : Cx), X.prog = P → X.w = w → X.K = K → X.calm = true → ∀ (i : Nat) (pins : List (Addr × Obj)) (s : Shared) (σ : St) (H : Hp) (E : Value → Shared → Prop), Inv X pins σ H s → (∀ b ∈ fp, FpOk X pins H b) → tn i s.heap → J.stop i H →
    wpAny (model P w) X.A (pyNext (.ref it)) (fun r s1 => r = none ∧ Inv X pins σ H s1) E s
  self : ∀ (A : Around) (i : Nat) (s : Shared) (Q : Value → Shared → Prop) (E : Value → Shared → Prop), tn i s.heap → Q (.ref it) s → wpAny (model P w) A (pyIter (.ref it)) Q E s
abbrev TI := St → Hp → (It → Hp → Prop) → Prop
def PIE (X : Cx) (pins : List (Addr × Obj)) (σ : St) (tg : Expr) (R : It → Hp → Prop) (itv : Value) (s2 : Shared) : Prop :=
  ∃ (it : Addr) (fp : List Addr) (tn : Nat → Heap → Prop) (J : It) (H' : Hp), itv = .ref it ∧ Inv X pins σ H' s2 ∧ Turn X.prog X.w X.K tg J fp it tn ∧ tn 0 s2.heap ∧ (∀ b ∈ fp, FpOk X pins H' b) ∧ R J H'
def PI (X : Cx) (tg iter : Expr) (wi : TI) : Prop :=
  ∀ (pins : List (Addr × Obj)) (s : Shared) (σ : St) (H : Hp) (R : It → Hp → Prop), Inv X pins σ H s → wi σ H R →
    wpAny (model X.prog X.w) X.A (eval iter X.env) (fun v s1 => wpAny (model X.prog X.w) X.A (pyIter v) (PIE X pins σ tg R) X.xe s1) X.xe s
theorem go_of {M : Model} {A : Around} {E : Value → Shared → Prop} {s : Shared} {tg : Expr} {it : Addr} {u : Value} {o : Obj} {n : String} {vs : Array Value} {Q : Unit → Shared → Prop} (ho : s.heap.get? it = some o) (hc : o.cls = .type n) (hd : o.data = .fields vs)
    (hn : ["enumerate", "zip", "dict_itemiterator", "dict_reverseitemiterator", "odict_iterator", "itertools.zip_longest", "itertools.pairwise"].contains n = false) (hQ : Q () s) : wpAny M A (letOwnedTupleGo tg (.ref it) u) Q E s := by
  unfold letOwnedTupleGo
  cases tg <;> first
    | exact wpAny_pure hQ
    | (cases u <;> first
        | exact wpAny_pure hQ
        | (refine wpAny_bind (wpAny_load ho ?_)
           rw [hc, hd]
           show wpAny M A (if (["enumerate", "zip", "dict_itemiterator", "dict_reverseitemiterator", "odict_iterator", "itertools.zip_longest", "itertools.pairwise"].contains n && vs[0]? == some (rawInt _)) = true then _ else _) Q E s
           rw [if_neg (by intro h; rw [hn, Bool.false_and] at h; cases h)]
           exact wpAny_pure hQ))
def Itl (K : PySem.W.Frag) (a : Addr) : It :=
  ⟨fun i H => ∃ xs x, SqL K H a xs ∧ xs[i]? = some x, fun i H x H' => H' = H ∧ ∀ xs, SqL K H a xs → xs[i]? = some x, fun i H => ∃ xs, SqL K H a xs ∧ xs.length ≤ i⟩
def Itt (K : PySem.W.Frag) (a : Addr) : It :=
  ⟨fun i H => ∃ xs x, SqT K H a xs ∧ xs[i]? = some x, fun i H x H' => H' = H ∧ ∀ xs, SqT K H a xs → xs[i]? = some x, fun i H => ∃ xs, SqT K H a xs ∧ xs.length ≤ i⟩
def Itr (lo : Int) (n : Nat) : It := ⟨fun i _ => i < n, fun i H x H' => H' = H ∧ x = .int (lo + i), fun i _ => n ≤ i⟩
theorem turn_list {P : Program} {w : World} {K : PySem.W.Frag} {tg : Expr} (a it : Addr) : Turn P w K tg (Itl K a) [it] it (fun i h => h.IsListIter it a i) where
  mem := by simp
  obj := fun i h st b hb => by
    have e : b = it := by simpa using hb
    subst e
    obtain ⟨o, e, c, d⟩ := st
    exact ⟨o, e, fun v z => by rw [d] at z; cases z⟩
  keep := fun i h h' st k => st.at fun o e => k it (by simp) o e
  item := by
    intro X hP hw hK hc i pins s σ H E I hf st hg
    subst hP hw hK
    obtain ⟨xs, x, hq, hx⟩ := hg
    obtain ⟨its, rv, p, hz⟩ := I.list hq
    obtain ⟨u, hu, ru⟩ := rv.get hx
    obtain ⟨f0, f1, f2, f3, f4, f5⟩ := hf it (by simp)
    refine wpAny_pyNext_list_item st p.isList (x := u) (by simpa using hu) fun h' st' sb => ?_
    have I1 : Inv X pins σ H { s with heap := h' } := I.turned (t' := s.toks) (fun b o hb e => (sb.2 b hb).trans e) f0 f1 f3 f4 f5
    obtain ⟨o, e, c, d⟩ := id st'
    exact ⟨u, rfl, go_of (s := { s with heap := h' }) e c d (by decide) ⟨x, H, I1, ru, ⟨rfl, fun ys hy => by rw [I.list_inj hy hq]; exact hx⟩, st', fun b hb => (hf b hb).1⟩⟩
  done := by
    intro X hP hw hK hc i pins s σ H E I hf st hg
    subst hP hw hK
    obtain ⟨xs, hq, hx⟩ := hg
    obtain ⟨its, rv, p, hz⟩ := I.list hq
    obtain ⟨f0, f1, f2, f3, f4, f5⟩ := hf it (by simp)
    have hl := rv.length
    exact wpAny_pyNext_list_end (I.ok.hd hc) st p.isList (by simp; omega) fun h' eb => ⟨rfl, I.turned (t' := s.toks) (fun b o hb e => eb b o hb e) f0 f1 f3 f4 f5⟩
  self := fun _ _ _ _ _ st h => wpAny_pyIter_listiter st h
theorem turn_tuple {P : Program} {w : World} {K : PySem.W.Frag} {tg : Expr} (a it : Addr) : Turn P w K tg (Itt K a) [it] it (fun i h => h.IsTupleIter it a i) where
  mem := by simp
  obj := fun i h st b hb => by
    have e : b = it := by simpa using hb
    subst e
    obtain ⟨o, e, c, d⟩ := st
    exact ⟨o, e, fun v z => by rw [d] at z; cases z⟩
  keep := fun i h h' st k => st.at fun o e => k it (by simp) o e
  item := by
    intro X hP hw hK hc i pins s σ H E I hf st hg
    subst hP hw hK
    obtain ⟨xs, x, hq, hx⟩ := hg
    obtain ⟨its, rv, p, hz⟩ := I.tuple hq
    obtain ⟨u, hu, ru⟩ := rv.get hx
    obtain ⟨f0, f1, f2, f3, f4, f5⟩ := hf it (by simp)
    refine wpAny_pyNext_tuple_item st (show s.heap.IsTuple a its.toArray from p) (x := u) (by simpa using hu) fun h' st' sb => ?_
    have I1 : Inv X pins σ H { s with heap := h' } := I.turned (t' := s.toks) (fun b o hb e => (sb.2 b hb).trans e) f0 f1 f3 f4 f5
    obtain ⟨o, e, c, d⟩ := id st'
    exact ⟨u, rfl, go_of (s := { s with heap := h' }) e c d (by decide) ⟨x, H, I1, ru, ⟨rfl, fun ys hy => by rw [I.tuple_inj hy hq]; exact hx⟩, st', fun b hb => (hf b hb).1⟩⟩
  done := by
    intro X hP hw hK hc i pins s σ H E I hf st hg
    subst hP hw hK
    obtain ⟨xs, hq, hx⟩ := hg
    obtain ⟨its, rv, p, hz⟩ := I.tuple hq
    obtain ⟨f0, f1, f2, f3, f4, f5⟩ := hf it (by simp)
    have hl := rv.length
    exact wpAny_pyNext_tuple_end (I.ok.hd hc) st (show s.heap.IsTuple a its.toArray from p) (by simp; omega) fun h' eb => ⟨rfl, I.turned (t' := s.toks) (fun b o hb e => eb b o hb e) f0 f1 f3 f4 f5⟩
  self := fun _ _ _ _ _ st h => wpAny_pyIter_tupleiter st h
theorem turn_range {P : Program} {w : World} {K : PySem.W.Frag} {tg : Expr} (it : Addr) (lo : Int) (n : Nat) : Turn P w K tg (Itr lo n) [it] it (fun i h => IsRangeIter h it (lo + (i : Nat) * 1) ((n : Int) - (i : Nat)) 1) where
  mem := by simp
  obj := fun i h st b hb => by
    have e : b = it := by simpa using hb
    subst e
    exact ⟨_, st, fun v z => by
      have z' : Data.fields _ = Data.cell v := z
      cases z'⟩
  keep := fun i h h' st k => k it (by simp) _ st
  item := by
    intro X hP hw hK hc i pins s σ H E I hf st hg
    subst hP hw hK
    obtain ⟨f0, f1, f2, f3, f4, f5⟩ := hf it (by simp)
    have W := Walks.range (prog := X.prog) (w := X.w) (I.ok.hd hc) it lo 1 n
    refine W.item i s _ _ hg st fun v h' tk hv st' kk => ?_
    obtain ⟨t, rfl⟩ := hv
    have I1 : Inv X pins σ H { s with heap := h', toks := tk } := I.turned (fun b o hb e => kk b o (by simpa using hb) e) f0 f1 f3 f4 f5
    refine ⟨_, rfl, go_of (s := { s with heap := h', toks := tk }) (n := "range_iterator") st' rfl rfl (by decide) ⟨.int (lo + i), H, I1, ⟨t, ?_⟩, ⟨rfl, rfl⟩, st', fun b hb => (hf b hb).1⟩⟩
    rw [Int.mul_one]
  done := by
    intro X hP hw hK hc i pins s σ H E I hf st hg
    subst hP hw hK
    obtain ⟨f0, f1, f2, f3, f4, f5⟩ := hf it (by simp)
    exact wpAny_pyNext_range_end (I.ok.hd hc) st (by have : n ≤ i := hg; omega) fun h' eb => ⟨rfl, I.turned (t' := s.toks) (fun b o hb e => eb b o hb e) f0 f1 f3 f4 f5⟩
  self := fun _ _ _ _ _ st h => wpAny_pyIter_rangeiter st h
end L2

namespace L2
open PySem PySem.Spec PyProof.Rows
section
variable {X : Cx} {tg : Expr}
def iList (K : PySem.W.Frag) (tl : TE) : TI := fun σ H R => tl σ H fun x H1 => ∃ a, x = .ref a ∧ (∃ xs, SqL K H1 a xs) ∧ R (Itl K a) H1
def iTup (K : PySem.W.Frag) (tl : TE) : TI := fun σ H R => tl σ H fun x H1 => ∃ a, x = .ref a ∧ (∃ xs, SqT K H1 a xs) ∧ R (Itt K a) H1
theorem pi_list {l : Expr} {tl : TE} (hl : PE X l tl) : PI X tg l (iList X.K tl) := by
  intro pins s σ H R I h
  refine thn (hl pins s σ H _ I h) fun v s1 ⟨x, H1, I1, r1, q1⟩ => ?_
  obtain ⟨a, e, ⟨xs, hq⟩, q⟩ := q1
  subst e
  cases r1
  obtain ⟨its, rv, p, hz⟩ := I1.list hq
  refine wpAny_pyIter_list p.isList ?_
  refine ⟨s1.heap.objs.size, [s1.heap.objs.size], _, _, H1, rfl, I1.kept (t' := s1.toks) fun b o e => Heap.get?_push_of_some _ e, turn_list a _, ⟨_, Heap.get?_push_size _ rfl, rfl, rfl⟩, fun b hb => ?_, q⟩
  have e : b = s1.heap.objs.size := by simpa using hb
  subst e
  exact I1.fpOk (Nat.le_refl _) (I1.hok.fresh (Nat.le_refl _))
theorem pi_tup {l : Expr} {tl : TE} (hl : PE X l tl) : PI X tg l (iTup X.K tl) := by
  intro pins s σ H R I h
  refine thn (hl pins s σ H _ I h) fun v s1 ⟨x, H1, I1, r1, q1⟩ => ?_
  obtain ⟨a, e, ⟨xs, hq⟩, q⟩ := q1
  subst e
  cases r1
  obtain ⟨its, rv, p, hz⟩ := I1.tuple hq
  refine wpAny_pyIter_tuple (show s1.heap.IsTuple a its.toArray from p) ?_
  refine ⟨s1.heap.objs.size, [s1.heap.objs.size], _, _, H1, rfl, I1.kept (t' := s1.toks) fun b o e => Heap.get?_push_of_some _ e, turn_tuple a _, ⟨_, Heap.get?_push_size _ rfl, rfl, rfl⟩, fun b hb => ?_, q⟩
  have e : b = s1.heap.objs.size := by simpa using hb
  subst e
  exact I1.fpOk (Nat.le_refl _) (I1.hok.fresh (Nat.le_refl _))
theorem range_it {pins : List (Addr × Obj)} {σ : St} {H : Hp} {s : Shared} {R : It → Hp → Prop} {E : Value → Shared → Prop} {lo hi : Int} {t u v : Tok} {tk : Nat} (I : Inv X pins σ H s) (h1 : -(2 ^ 62) ≤ lo) (h2 : lo < 2 ^ 62) (h3 : -(2 ^ 62) ≤ hi) (h4 : hi < 2 ^ 62)
    (q : R (Itr lo (hi - lo).toNat) H) : wpAny (model X.prog X.w) X.A (pyIter (.ref s.heap.objs.size)) (PIE X pins σ tg R) E { s with heap := s.heap.push { cls := .type "range", data := .fields #[.int lo t, .int hi u, .int 1 v] }, toks := tk } := by
  refine wpAny_pyIter_range (IsRange.new ..) (small_one h1 h2 h3 h4) ?_
  have I1 : Inv X pins σ H { s with heap := s.heap.push { cls := .type "range", data := .fields #[.int lo t, .int hi u, .int 1 v] }, toks := tk } := I.kept fun b o e => Heap.get?_push_of_some _ e
  refine ⟨(s.heap.push { cls := .type "range", data := .fields #[.int lo t, .int hi u, .int 1 v] }).objs.size, [(s.heap.push { cls := .type "range", data := .fields #[.int lo t, .int hi u, .int 1 v] }).objs.size], _, _, H, rfl,
    I1.kept (t' := tk) fun b o e => Heap.get?_push_of_some _ e, turn_range _ lo (hi - lo).toNat, ?_, fun b hb => ?_, q⟩
  · have e1 : lo + ((0 : Nat) : Int) * 1 = lo := by simp
    have e2 : (((hi - lo).toNat : Nat) : Int) - ((0 : Nat) : Int) = Builtin.Range.rangeSize lo hi 1 := by rw [rangeSize_one]; split <;> omega
    show IsRangeIter _ _ (lo + ((0 : Nat) : Int) * 1) ((((hi - lo).toNat : Nat) : Int) - ((0 : Nat) : Int)) 1
    rw [e1, e2]
    exact Heap.get?_push_size _ rfl
  · have e : b = (s.heap.push { cls := .type "range", data := .fields #[.int lo t, .int hi u, .int 1 v] }).objs.size := by simpa using hb
    subst e
    exact I1.fpOk (Nat.le_refl _) (I1.hok.fresh (Nat.le_refl _))
def iRng1 (ta : TA) : TI := fun σ H R => ta σ H fun vs H1 => ∃ j : Int, vs = [.int j] ∧ -(2 ^ 62) ≤ j ∧ j < 2 ^ 62 ∧ R (Itr 0 j.toNat) H1
theorem pi_range1 {a : Expr} {ta : TA} {p pos : Pos} (hg : Gl X "range") (hm : X.mg "range" = none) (ha : PA X [a] ta) (hs : starEach [a] X.env = [(false, eval a X.env)] := by rfl) : PI X tg (.Call (.Name "range" p) [a] [] pos) (iRng1 ta) := by
  intro pins s σ H R I h
  refine Call_ (ld_blt I hg hm boot_range (PyProof.Rows.callWith_type1 (thn (ha pos pins s σ H _ I h) fun us s1 ⟨vs, H1, I1, r1, q1⟩ => ?_) hs rfl))
  obtain ⟨j, e, q1, q2, q⟩ := q1
  subst e
  cases r1 with
  | cons r rr =>
    cases rr
    obtain ⟨t, rfl⟩ := r
    exact call_range_1 (range_it I1 (by omega) (by omega) q1 q2 (by simpa using q))
def tFor (wi : TI) (g : TG) (tb : TS) : TS := fun D σ H => wi σ H fun J H1 => ∃ W : Nat → Nat → St → Hp → Prop, (∃ m, W 0 m σ H1) ∧ ∀ i m σ H, W i m σ H →
  (J.stop i H ∧ D.nx σ H) ∨ (J.go i H ∧ ∃ N : St → Hp → Prop, (∀ σ' H', N σ' H' → ∃ m', m' < m ∧ W (i + 1) m' σ' H') ∧ ∀ x H', J.yld i H x H' → g x σ H' fun σ2 H2 => tb { D with nx := N, ct := N, bk := D.nx } σ2 H2)
def pinsAt (fp : List Addr) (h : Heap) : List (Addr × Obj) := fp.filterMap fun b => (h.get? b).map fun o => (b, o)
theorem mem_pinsAt {fp : List Addr} {h : Heap} {b : Addr} {o : Obj} (hb : b ∈ fp) (e : h.get? b = some o) : (b, o) ∈ pinsAt fp h := List.mem_filterMap.mpr ⟨b, hb, by rw [e]; rfl⟩
theorem of_pinsAt {fp : List Addr} {h : Heap} {p : Addr × Obj} (hp : p ∈ pinsAt fp h) : p.1 ∈ fp ∧ h.get? p.1 = some p.2 := by
  obtain ⟨b, hb, e⟩ := List.mem_filterMap.mp hp
  cases q : h.get? b with
  | none => rw [q] at e; cases e
  | some o =>
    rw [q] at e
    have e' : (b, o) = p := Option.some.inj e
    subst e'
    exact ⟨hb, q⟩
theorem Inv.pinned {pins : List (Addr × Obj)} {σ : St} {H : Hp} {s : Shared} {fp : List Addr} (I : Inv X pins σ H s) (hf : ∀ b ∈ fp, FpOk X pins H b) (ho : ∀ b ∈ fp, ∃ o, s.heap.get? b = some o ∧ ∀ v, o.data ≠ .cell v) : Inv X (pins ++ pinsAt fp s.heap) σ H s :=
  I.pins_of fun p hp => (List.mem_append.mp hp).elim (fun z => I.pin p (List.mem_append_right _ z)) fun z => by
    obtain ⟨hb, e⟩ := of_pinsAt z
    obtain ⟨f0, f1, f2, _⟩ := hf p.1 hb
    obtain ⟨o, e', d⟩ := ho p.1 hb
    rw [e] at e'; cases e'
    exact ⟨e, f0, f1, f2, d⟩
theorem Inv.unpinned {pins pl : List (Addr × Obj)} {σ : St} {H : Hp} {s : Shared} (I : Inv X (pins ++ pl) σ H s) : Inv X pins σ H s := I.pins_of fun p hp => I.pin p (List.mem_append_right _ (List.mem_append_left _ hp))
theorem ps_for {iter : Expr} {body : List Stmt} {wi : TI} {g : TG} {tb : TS} {pos : Pos} (hp : PassesOwn (model X.prog X.w) X.A X.env X.xe) (hc : X.calm = true) (hi : PI X tg iter wi) (hg : PG X tg g) (hb : PSs X body tb)
    (hs : ∀ x, foldedSetIterable iter X.env x = pure x := by intro _; rfl) : PS X (.For tg iter body [] pos) (tFor wi g tb) := by
  intro pins s σ H D I h
  refine wpAny_For (thn (hi pins s σ H _ I h) fun v s1 h1 => thn h1 fun itv s2 h2 => ?_) hs
  obtain ⟨it, fp, tn, J, H2, e, I2, T, st2, f2, W, ⟨m0, w0⟩, turn⟩ := h2
  subst e
  have stat : ∀ {H' : Hp}, (∀ b ∈ fp, H' b = none) → ∀ b ∈ fp, FpOk X pins H' b := fun hn b hb => ⟨hn b hb, (f2 b hb).2⟩
  refine codeAny_forLoop_any (fun n s' => ∃ i σ' H', Inv X pins σ' H' s' ∧ tn i s'.heap ∧ (∀ b ∈ fp, H' b = none) ∧ W i n σ' H') ?_ m0 ⟨0, σ, H2, I2, st2, fun b hb => (f2 b hb).1, w0⟩
  rintro n s3 ⟨i, σ3, H3, I3, st3, fr3, w3⟩
  rcases turn i n σ3 H3 w3 with ⟨stop, qn⟩ | ⟨go, N, hN, step⟩
  · refine wpAny_passesOwn hp (thn (T.done X rfl rfl rfl hc i pins s3 σ3 H3 X.xe I3 (stat fr3) st3 stop) fun r s4 ⟨hr, I4⟩ => ?_)
    subst hr
    exact wpAny_execs_nil ⟨σ3, H3, I4, qn⟩
  · refine wpAny_passesOwn hp (thn (T.item X rfl rfl rfl hc i pins s3 σ3 H3 X.xe I3 (stat fr3) st3 go) fun r s4 ⟨u, hr, h4⟩ => ?_)
    subst hr
    refine wpAny_passesOwn hp (thn h4 fun _ s5 ⟨x, H5, I5, r5, y5, st5, fr5⟩ => ?_)
    have I5' := I5.pinned (stat fr5) (T.obj _ _ st5)
    refine wpAny_passesOwn hp (thn (hg _ s5 σ3 H5 x u _ I5' r5 (step x H5 y5)) fun _ s6 ⟨σ6, H6, I6, q6⟩ => ?_)
    refine wpAny_passesOwn hp (thn (hb _ s6 σ6 H6 _ I6 q6) fun f s7 q7 => ?_)
    have again : ∀ {σ7 : St} {H7 : Hp}, Inv X (pins ++ pinsAt fp s5.heap) σ7 H7 s7 → N σ7 H7 → ∃ m, m < n ∧ ∃ i σ' H', Inv X pins σ' H' s7 ∧ tn i s7.heap ∧ (∀ b ∈ fp, H' b = none) ∧ W i m σ' H' := fun {σ7 H7} I7 n7 => by
      obtain ⟨m', hm, w7⟩ := hN σ7 H7 n7
      refine ⟨m', hm, i + 1, σ7, H7, I7.unpinned, T.keep _ _ _ st5 fun b hb o e => (I7.pin (b, o) (List.mem_append_right _ (List.mem_append_right _ (mem_pinsAt hb e)))).1, fun b hb => ?_, w7⟩
      obtain ⟨o, e, d⟩ := T.obj _ _ st5 b hb
      exact (I7.pin (b, o) (List.mem_append_right _ (List.mem_append_right _ (mem_pinsAt hb e)))).2.1
    cases f with
    | next => obtain ⟨σ7, H7, I7, n7⟩ := q7; exact again I7 n7
    | cont => obtain ⟨σ7, H7, I7, n7⟩ := q7; exact again I7 n7
    | brk => obtain ⟨σ7, H7, I7, q7⟩ := q7; exact ⟨σ7, H7, I7.unpinned, q7⟩
    | ret v => obtain ⟨x7, σ7, H7, I7, r7, q7⟩ := q7; exact ⟨x7, σ7, H7, I7.unpinned, r7, q7⟩
end
theorem for_list {K : PySem.W.Frag} {a : Addr} {xs : List V} {g : TG} {tb : TS} {D : Ends} {σ : St} {H : Hp} (Pv : Nat → St → Hp → Prop) (h0 : Pv 0 σ H) (hl : ∀ i σ H, i ≤ xs.length → Pv i σ H → SqL K H a xs)
    (hs : ∀ i x σ H, xs[i]? = some x → Pv i σ H → g x σ H fun σ2 H2 => tb { D with nx := Pv (i + 1), ct := Pv (i + 1), bk := D.nx } σ2 H2) (hd : ∀ σ H, Pv xs.length σ H → D.nx σ H) :
    ∃ W : Nat → Nat → St → Hp → Prop, (∃ m, W 0 m σ H) ∧ ∀ i m σ H, W i m σ H →
      ((Itl K a).stop i H ∧ D.nx σ H) ∨ ((Itl K a).go i H ∧ ∃ N : St → Hp → Prop, (∀ σ' H', N σ' H' → ∃ m', m' < m ∧ W (i + 1) m' σ' H') ∧ ∀ x H', (Itl K a).yld i H x H' → g x σ H' fun σ2 H2 => tb { D with nx := N, ct := N, bk := D.nx } σ2 H2) := by
  refine ⟨fun i m σ H => m = xs.length - i ∧ i ≤ xs.length ∧ Pv i σ H, ⟨xs.length, by simp, Nat.zero_le _, h0⟩, ?_⟩
  rintro i m σ H ⟨rfl, hi, p⟩
  have q := hl i σ H hi p
  by_cases hlt : i < xs.length
  · refine .inr ⟨⟨xs, xs[i], q, by simp [hlt]⟩, Pv (i + 1), fun σ' H' p' => ⟨xs.length - (i + 1), by omega, rfl, hlt, p'⟩, fun x H' y => ?_⟩
    obtain ⟨e, y⟩ := y
    subst e
    exact hs i x σ _ (y xs q) p
  · have e : i = xs.length := by omega
    subst e
    exact .inl ⟨⟨xs, q, Nat.le_refl _⟩, hd σ H p⟩
theorem for_tup {K : PySem.W.Frag} {a : Addr} {xs : List V} {g : TG} {tb : TS} {D : Ends} {σ : St} {H : Hp} (Pv : Nat → St → Hp → Prop) (h0 : Pv 0 σ H) (hl : ∀ i σ H, i ≤ xs.length → Pv i σ H → SqT K H a xs)
    (hs : ∀ i x σ H, xs[i]? = some x → Pv i σ H → g x σ H fun σ2 H2 => tb { D with nx := Pv (i + 1), ct := Pv (i + 1), bk := D.nx } σ2 H2) (hd : ∀ σ H, Pv xs.length σ H → D.nx σ H) :
    ∃ W : Nat → Nat → St → Hp → Prop, (∃ m, W 0 m σ H) ∧ ∀ i m σ H, W i m σ H →
      ((Itt K a).stop i H ∧ D.nx σ H) ∨ ((Itt K a).go i H ∧ ∃ N : St → Hp → Prop, (∀ σ' H', N σ' H' → ∃ m', m' < m ∧ W (i + 1) m' σ' H') ∧ ∀ x H', (Itt K a).yld i H x H' → g x σ H' fun σ2 H2 => tb { D with nx := N, ct := N, bk := D.nx } σ2 H2) := by
  refine ⟨fun i m σ H => m = xs.length - i ∧ i ≤ xs.length ∧ Pv i σ H, ⟨xs.length, by simp, Nat.zero_le _, h0⟩, ?_⟩
  rintro i m σ H ⟨rfl, hi, p⟩
  have q := hl i σ H hi p
  by_cases hlt : i < xs.length
  · refine .inr ⟨⟨xs, xs[i], q, by simp [hlt]⟩, Pv (i + 1), fun σ' H' p' => ⟨xs.length - (i + 1), by omega, rfl, hlt, p'⟩, fun x H' y => ?_⟩
    obtain ⟨e, y⟩ := y
    subst e
    exact hs i x σ _ (y xs q) p
  · have e : i = xs.length := by omega
    subst e
    exact .inl ⟨⟨xs, q, Nat.le_refl _⟩, hd σ H p⟩
theorem for_range {lo : Int} {n : Nat} {g : TG} {tb : TS} {D : Ends} {σ : St} {H : Hp} (Pv : Nat → St → Hp → Prop) (h0 : Pv 0 σ H)
    (hs : ∀ i σ H, i < n → Pv i σ H → g (.int (lo + i)) σ H fun σ2 H2 => tb { D with nx := Pv (i + 1), ct := Pv (i + 1), bk := D.nx } σ2 H2) (hd : ∀ σ H, Pv n σ H → D.nx σ H) :
    ∃ W : Nat → Nat → St → Hp → Prop, (∃ m, W 0 m σ H) ∧ ∀ i m σ H, W i m σ H →
      ((Itr lo n).stop i H ∧ D.nx σ H) ∨ ((Itr lo n).go i H ∧ ∃ N : St → Hp → Prop, (∀ σ' H', N σ' H' → ∃ m', m' < m ∧ W (i + 1) m' σ' H') ∧ ∀ x H', (Itr lo n).yld i H x H' → g x σ H' fun σ2 H2 => tb { D with nx := N, ct := N, bk := D.nx } σ2 H2) := by
  refine ⟨fun i m σ H => m = n - i ∧ i ≤ n ∧ Pv i σ H, ⟨n, by simp, Nat.zero_le _, h0⟩, ?_⟩
  rintro i m σ H ⟨rfl, hi, p⟩
  by_cases hlt : i < n
  · refine .inr ⟨hlt, Pv (i + 1), fun σ' H' p' => ⟨n - (i + 1), by omega, rfl, hlt, p'⟩, fun x H' y => ?_⟩
    obtain ⟨e, y⟩ := y
    subst e y
    exact hs i σ _ hlt p
  · have e : i = n := by omega
    subst e
    exact .inl ⟨Nat.le_refl _, hd σ H p⟩
end L2

namespace L2
open PySem PySem.Spec PyProof.Rows

abbrev R2 := V → V → Hp → VK → Prop
def OpR (X : Cx) (f : Value → Value → Sem Value) (r : R2) : Prop :=
  ∀ (pins : List (Addr × Obj)) (s : Shared) (σ : St) (H : Hp) (x y : V) (v u : Value) (Q : VK), Inv X pins σ H s → RelV x v → RelV y u → r x y H Q →
    wpAny (model X.prog X.w) X.A (f v u) (EP X pins σ Q) X.xe s
def UnR (X : Cx) (f : Value → Sem Value) (r : V → Hp → VK → Prop) : Prop :=
  ∀ (pins : List (Addr × Obj)) (s : Shared) (σ : St) (H : Hp) (x : V) (v : Value) (Q : VK), Inv X pins σ H s → RelV x v → r x H Q →
    wpAny (model X.prog X.w) X.A (f v) (EP X pins σ Q) X.xe s
def CallR (X : Cx) (f : Value) (r : List V → Hp → VK → Prop) : Prop :=
  ∀ (pins : List (Addr × Obj)) (s : Shared) (σ : St) (H : Hp) (xs : List V) (us : List Value) (Q : VK), Inv X pins σ H s → Vals xs us → r xs H Q →
    wpAny (model X.prog X.w) X.A (call f us) (EP X pins σ Q) X.xe s
def TruR (X : Cx) (r : V → Hp → (Bool → Hp → Prop) → Prop) : Prop :=
  ∀ (pins : List (Addr × Obj)) (s : Shared) (σ : St) (H : Hp) (x : V) (v : Value) (Q : Bool → Hp → Prop), Inv X pins σ H s → RelV x v → r x H Q →
    wpAny (model X.prog X.w) X.A (truthy v) (TP X pins σ Q) X.xe s

def tOp (r : R2) (ta tb : TE) : TE := fun σ H Q => ta σ H fun x H1 => tb σ H1 fun y H2 => r x y H2 Q
def tUn (r : V → Hp → VK → Prop) (ta : TE) : TE := fun σ H Q => ta σ H fun x H1 => r x H1 Q
def rI (C : Int → Int → Prop) (g : Int → Int → V) : R2 := fun x y H Q => ∃ i j, x = .int i ∧ y = .int j ∧ C i j ∧ Q (g i j) H
def rI0 (g : Int → Int → V) : R2 := fun x y H Q => ∃ i j, x = .int i ∧ y = .int j ∧ Q (g i j) H
def rU (g : Int → V) : V → Hp → VK → Prop := fun x H Q => ∃ i, x = .int i ∧ Q (g i) H

section
variable {X : Cx} {a b c : Expr} {ta tb tc : TE} {pos : Pos}

theorem binT (ha : PE X a ta) (hb : PE X b tb) {pins : List (Addr × Obj)} {s : Shared} {σ : St} {H : Hp} {R : V → V → Hp → Prop} (I : Inv X pins σ H s)
    (h : ta σ H fun x H1 => tb σ H1 fun y H2 => R x y H2) {Q : Value → Shared → Prop} {f : Value → Value → Sem Value}
    (hf : ∀ v u s2 x y H2, Inv X pins σ H2 s2 → RelV x v → RelV y u → R x y H2 → wpAny (model X.prog X.w) X.A (f v u) Q X.xe s2) :
    wpAny (model X.prog X.w) X.A (eval a X.env) (fun v s₁ => wpAny (model X.prog X.w) X.A (eval b X.env) (fun u s₂ => wpAny (model X.prog X.w) X.A (f v u) Q X.xe s₂) X.xe s₁) X.xe s := by
  refine thn (ha pins s σ H _ I h) fun v s1 ⟨x, H1, I1, r1, q1⟩ => ?_
  refine thn (hb pins s1 σ H1 _ I1 q1) fun u s2 ⟨y, H2, I2, r2, q2⟩ => ?_
  exact hf v u s2 x y H2 I2 r1 r2 q2

theorem pe_op {op : Operator} {r : R2} (ho : OpR X (binaryOp op) r) (ha : PE X a ta) (hb : PE X b tb) : PE X (.BinOp a op b pos) (tOp r ta tb) := by
  intro pins s σ H Q I h
  exact wpAny_BinOp (binT ha hb I h fun v u s2 x y H2 I2 rx ry q => ho pins s2 σ H2 x y v u Q I2 rx ry q)
theorem pe_un {op : UnaryOp} {r : V → Hp → VK → Prop} (ho : UnR X (unaryOp op) r) (ha : PE X a ta) : PE X (.UnaryOp op a pos) (tUn r ta) := by
  intro pins s σ H Q I h
  exact UnaryOp_ (thn (ha pins s σ H _ I h) fun v s1 ⟨x, H1, I1, r1, q1⟩ => ho pins s1 σ H1 x v Q I1 r1 q1)
theorem opI {f : Value → Value → Sem Value} {C : Int → Int → Prop} {g : Int → Int → Int}
    (rule : ∀ (i j : Int) (t u : Tok) (s : Shared) (Q : Value → Shared → Prop) (E : Value → Shared → Prop), C i j → Q (.int (g i j) s.toks) { s with toks := s.toks + 1 } → wpAny (model X.prog X.w) X.A (f (.int i t) (.int j u)) Q E s) :
    OpR X f (rI C fun i j => .int (g i j)) := by
  intro pins s σ H x y v u Q I rx ry h
  obtain ⟨i, j, rfl, rfl, hc, q⟩ := h
  obtain ⟨t, rfl⟩ := rx
  obtain ⟨t', rfl⟩ := ry
  exact rule i j t t' s _ _ hc ⟨.int (g i j), H, I.tok _, ⟨_, rfl⟩, q⟩
theorem opI0 {f : Value → Value → Sem Value} {g : Int → Int → Int}
    (rule : ∀ (i j : Int) (t u : Tok) (s : Shared) (Q : Value → Shared → Prop) (E : Value → Shared → Prop), Q (.int (g i j) s.toks) { s with toks := s.toks + 1 } → wpAny (model X.prog X.w) X.A (f (.int i t) (.int j u)) Q E s) :
    OpR X f (rI0 fun i j => .int (g i j)) := by
  intro pins s σ H x y v u Q I rx ry h
  obtain ⟨i, j, rfl, rfl, q⟩ := h
  obtain ⟨t, rfl⟩ := rx
  obtain ⟨t', rfl⟩ := ry
  exact rule i j t t' s _ _ ⟨.int (g i j), H, I.tok _, ⟨_, rfl⟩, q⟩
theorem opB0 {f : Value → Value → Sem Value} {g : Int → Int → Bool}
    (rule : ∀ (i j : Int) (t u : Tok) (s : Shared) (Q : Value → Shared → Prop) (E : Value → Shared → Prop), Q (.bool (g i j)) s → wpAny (model X.prog X.w) X.A (f (.int i t) (.int j u)) Q E s) :
    OpR X f (rI0 fun i j => .bl (g i j)) := by
  intro pins s σ H x y v u Q I rx ry h
  obtain ⟨i, j, rfl, rfl, q⟩ := h
  obtain ⟨t, rfl⟩ := rx
  obtain ⟨t', rfl⟩ := ry
  exact rule i j t t' s _ _ ⟨.bl (g i j), H, I, rfl, q⟩

def CDiv (i j : Int) : Prop := 0 < j ∧ j < 1073741824
def CPow (i j : Int) : Prop := 0 ≤ j ∧ j ≤ 1000000 ∧ i.natAbs < 2 ^ 64
def CMul (i j : Int) : Prop := (-(2 ^ 64) < i ∧ i < 2 ^ 64) ∨ (-(2 ^ 64) < j ∧ j < 2 ^ 64)
theorem CMul.ok {i j : Int} (h : CMul i j) : IntMulOk i j := by
  rcases h with ⟨h1, h2⟩ | ⟨h1, h2⟩
  · exact .of_left (intBits_le_64 h1 h2)
  · exact .of_right (intBits_le_64 h1 h2)
theorem op_add : OpR X (binaryOp .Add) (rI0 fun i j => .int (i + j)) := opI0 fun _ _ _ _ _ _ _ q => add_int q
theorem op_sub : OpR X (binaryOp .Sub) (rI0 fun i j => .int (i - j)) := opI0 fun _ _ _ _ _ _ _ q => sub_int q
theorem op_mul : OpR X (binaryOp .Mult) (rI CMul fun i j => .int (i * j)) := opI fun _ _ _ _ _ _ _ hc q => mul_int q hc.ok
theorem op_fdiv : OpR X (binaryOp .FloorDiv) (rI CDiv fun i j => .int (i / j)) := opI fun i j _ _ _ _ _ hc q => by
  have h1 : (0 : Int) < j := hc.1
  have h2 : j < 1073741824 := hc.2
  exact floordiv_int (by omega) (by rw [Int.fdiv_eq_ediv_of_nonneg i (by omega)]; exact q) (.inl (PyProof.noPylong_small (by omega)))
theorem op_mod : OpR X (binaryOp .Mod) (rI (fun _ j => 0 < j) fun i j => .int (i % j)) := opI fun i j _ _ _ _ _ hc q => by
  have h1 : (0 : Int) < j := hc
  exact mod_int' (by omega) (by rw [Int.fmod_eq_emod_of_nonneg i (by omega)]; exact q)
theorem op_pow : OpR X (binaryOp .Pow) (rI CPow fun i j => .int (i ^ j.toNat)) := opI fun _ _ _ _ _ _ _ hc q => pow_int_small hc.1 hc.2.1 hc.2.2 q
theorem unI {f : Value → Sem Value} {g : Int → Int}
    (rule : ∀ (i : Int) (t : Tok) (s : Shared) (Q : Value → Shared → Prop) (E : Value → Shared → Prop), Q (.int (g i) s.toks) { s with toks := s.toks + 1 } → wpAny (model X.prog X.w) X.A (f (.int i t)) Q E s) :
    UnR X f (rU fun i => .int (g i)) := by
  intro pins s σ H x v Q I rx h
  obtain ⟨i, rfl, q⟩ := h
  obtain ⟨t, rfl⟩ := rx
  exact rule i t s _ _ ⟨.int (g i), H, I.tok _, ⟨_, rfl⟩, q⟩
theorem un_neg : UnR X (unaryOp .USub) (rU fun i => .int (-i)) := unI fun _ _ _ _ _ q => neg_int q
end
def scal : V → V → Bool
  | .non, .non => true | .non, .int _ => true | .int _, .non => true | .non, .bl _ => true | .bl _, .non => true | .non, .str _ => true | .str _, .non => true
  | .int _, .int _ => true | .bl _, .bl _ => true | .str _, .str _ => true | .byt _, .byt _ => true
  | .int _, .str _ => true | .str _, .int _ => true | .bl _, .str _ => true | .str _, .bl _ => true
  | _, _ => false
def rEq : R2 := fun x y H Q => scal x y = true ∧ Q (.bl (decide (x = y))) H
def rNe : R2 := fun x y H Q => scal x y = true ∧ Q (.bl (!decide (x = y))) H

theorem dec_int {i j : Int} : decide (V.int i = V.int j) = (i == j) := by
  rw [Bool.eq_iff_iff]
  simp
theorem dec_bl {i j : Bool} : decide (V.bl i = V.bl j) = (i == j) := by
  rw [Bool.eq_iff_iff]
  simp
theorem dec_str {i j : Str} : decide (V.str i = V.str j) = (i == j) := by
  rw [Bool.eq_iff_iff]
  simp
theorem dec_byt {i j : Array UInt8} : decide (V.byt i = V.byt j) = (i.toList == j.toList) := by
  rw [Bool.eq_iff_iff]
  cases i
  cases j
  simp

section
variable {X : Cx} {a b c : Expr} {ta tb tc : TE} {pos : Pos}
theorem fin_bl {pins : List (Addr × Obj)} {σ : St} {H : Hp} {s : Shared} {Q : VK} {k k' : Bool} (I : Inv X pins σ H s) (q : Q (.bl k) H) (e : k = k') : EP X pins σ Q (.bool k') s := by
  subst e
  exact ⟨.bl k, H, I, rfl, q⟩
theorem op_eq : OpR X (compareOp .Eq) rEq := by
  intro pins s σ H x y v u Q I rx ry h
  obtain ⟨hs, q⟩ := h
  cases x with
  | non =>
    cases rx
    cases y with
    | non => cases ry; exact PySem.EqNone.eq_none_none (fin_bl I q (by simp))
    | bl j => cases ry; exact PySem.EqNone.eq_none_bool (fin_bl I q (by simp))
    | int j => obtain ⟨t', rfl⟩ := ry; exact PySem.EqNone.eq_none_int (fin_bl I q (by simp))
    | str j => obtain ⟨t', rfl⟩ := ry; exact PySem.EqNone.eq_none_str (fin_bl I q (by simp))
    | _ => exact absurd (show false = true from hs) Bool.false_ne_true
  | bl i =>
    cases rx
    cases y with
    | non => cases ry; exact PySem.EqNone.eq_bool_none (fin_bl I q (by simp))
    | bl j => cases ry; exact eq_bool (fin_bl I q dec_bl)
    | str j => obtain ⟨t', rfl⟩ := ry; exact PySem.EqMixed.eq_bool_str (fin_bl I q (by simp))
    | _ => exact absurd (show false = true from hs) Bool.false_ne_true
  | int i =>
    obtain ⟨t, rfl⟩ := rx
    cases y with
    | non => cases ry; exact PySem.EqNone.eq_int_none (fin_bl I q (by simp))
    | int j => obtain ⟨t', rfl⟩ := ry; exact eq_int (fin_bl I q dec_int)
    | str j => obtain ⟨t', rfl⟩ := ry; exact PySem.EqMixed.eq_int_str (fin_bl I q (by simp))
    | _ => exact absurd (show false = true from hs) Bool.false_ne_true
  | str i =>
    obtain ⟨t, rfl⟩ := rx
    cases y with
    | non => cases ry; exact PySem.EqNone.eq_str_none (fin_bl I q (by simp))
    | bl j => cases ry; exact PySem.EqMixed.eq_str_bool (fin_bl I q (by simp))
    | int j => obtain ⟨t', rfl⟩ := ry; exact PySem.EqMixed.eq_str_int (fin_bl I q (by simp))
    | str j => obtain ⟨t', rfl⟩ := ry; exact eq_str (fin_bl I q dec_str)
    | _ => exact absurd (show false = true from hs) Bool.false_ne_true
  | byt i =>
    obtain ⟨t, rfl⟩ := rx
    cases y with
    | byt j => obtain ⟨t', rfl⟩ := ry; exact PySem.W.eq_bytes (fin_bl I q dec_byt)
    | _ => exact absurd (show false = true from hs) Bool.false_ne_true
  | _ => cases y <;> exact absurd (show false = true from hs) Bool.false_ne_true
theorem op_ne : OpR X (compareOp .NotEq) rNe := by
  intro pins s σ H x y v u Q I rx ry h
  obtain ⟨hs, q⟩ := h
  cases x with
  | non =>
    cases rx
    cases y with
    | non => cases ry; exact PySem.EqNone.ne_none_none (fin_bl I q (by simp))
    | bl j => cases ry; exact PySem.EqNone.ne_none_bool (fin_bl I q (by simp))
    | int j => obtain ⟨t', rfl⟩ := ry; exact PySem.EqNone.ne_none_int (fin_bl I q (by simp))
    | str j => obtain ⟨t', rfl⟩ := ry; exact PySem.EqNone.ne_none_str (fin_bl I q (by simp))
    | _ => exact absurd (show false = true from hs) Bool.false_ne_true
  | bl i =>
    cases rx
    cases y with
    | non => cases ry; exact PySem.EqNone.ne_bool_none (fin_bl I q (by simp))
    | bl j => cases ry; exact ne_bool (fin_bl I q (congrArg not dec_bl))
    | str j => obtain ⟨t', rfl⟩ := ry; exact PySem.EqMixed.ne_bool_str (fin_bl I q (by simp))
    | _ => exact absurd (show false = true from hs) Bool.false_ne_true
  | int i =>
    obtain ⟨t, rfl⟩ := rx
    cases y with
    | non => cases ry; exact PySem.EqNone.ne_int_none (fin_bl I q (by simp))
    | int j => obtain ⟨t', rfl⟩ := ry; exact ne_int (fin_bl I q (congrArg not dec_int))
    | str j => obtain ⟨t', rfl⟩ := ry; exact PySem.EqMixed.ne_int_str (fin_bl I q (by simp))
    | _ => exact absurd (show false = true from hs) Bool.false_ne_true
  | str i =>
    obtain ⟨t, rfl⟩ := rx
    cases y with
    | non => cases ry; exact PySem.EqNone.ne_str_none (fin_bl I q (by simp))
    | bl j => cases ry; exact PySem.EqMixed.ne_str_bool (fin_bl I q (by simp))
    | int j => obtain ⟨t', rfl⟩ := ry; exact PySem.EqMixed.ne_str_int (fin_bl I q (by simp))
    | str j => obtain ⟨t', rfl⟩ := ry; exact ne_str (fin_bl I q (congrArg not dec_str))
    | _ => exact absurd (show false = true from hs) Bool.false_ne_true
  | byt i =>
    obtain ⟨t, rfl⟩ := rx
    cases y with
    | byt j => obtain ⟨t', rfl⟩ := ry; exact PySem.W.ne_bytes (fin_bl I q (congrArg not dec_byt))
    | _ => exact absurd (show false = true from hs) Bool.false_ne_true
  | _ => cases y <;> exact absurd (show false = true from hs) Bool.false_ne_true

theorem op_lt : OpR X (compareOp .Lt) (rI0 fun i j => .bl (decide (i < j))) := opB0 fun _ _ _ _ _ _ _ q => lt_int q
theorem op_le : OpR X (compareOp .LtE) (rI0 fun i j => .bl (decide (i ≤ j))) := opB0 fun _ _ _ _ _ _ _ q => le_int q
theorem op_gt : OpR X (compareOp .Gt) (rI0 fun i j => .bl (decide (j < i))) := opB0 fun _ _ _ _ _ _ _ q => gt_int q
theorem op_ge : OpR X (compareOp .GtE) (rI0 fun i j => .bl (decide (j ≤ i))) := opB0 fun _ _ _ _ _ _ _ q => ge_int q
theorem op_in_str : OpR X (compareOp .In) (fun x y H Q => ∃ i j, x = .str i ∧ y = .str j ∧ Q (.bl (!(Builtin.Str.occurrences j i 0 j.length 1).isEmpty)) H) := by
  intro pins s σ H x y v u Q I rx ry h
  obtain ⟨i, j, rfl, rfl, q⟩ := h
  obtain ⟨t, rfl⟩ := rx
  obtain ⟨t', rfl⟩ := ry
  exact in_str (fin_bl I q rfl)
theorem op_isN : OpR X (compareOp .Is) (fun x y H Q => y = .non ∧ Q (.bl (decide (x = .non))) H) := by
  intro pins s σ H x y v u Q I rx ry h
  obtain ⟨rfl, q⟩ := h
  cases ry
  refine is_none_gen (fin_bl I q ?_)
  cases x <;> first
    | (cases rx; rfl)
    | (obtain ⟨t, rfl⟩ := rx; rfl)
theorem op_notN : OpR X (compareOp .IsNot) (fun x y H Q => y = .non ∧ Q (.bl (!decide (x = .non))) H) := by
  intro pins s σ H x y v u Q I rx ry h
  obtain ⟨rfl, q⟩ := h
  cases ry
  refine isnot_none_gen (fin_bl I q ?_)
  cases x <;> first
    | (cases rx; rfl)
    | (obtain ⟨t, rfl⟩ := rx; rfl)

theorem nomark (b : Expr) {op : CmpOp} (h : op ≠ .In := by decide) (h2 : op ≠ .NotIn := by decide) : behindInMarks op b = false := by
  have e1 : (op == CmpOp.In) = false := by cases op <;> first | rfl | exact absurd rfl h
  have e2 : (op == CmpOp.NotIn) = false := by cases op <;> first | rfl | exact absurd rfl h2
  cases b <;> simp [behindInMarks, e1, e2]
theorem pe_cmpR {op : CmpOp} {r : R2} (ho : OpR X (compareOp op) r) (ha : PE X a ta) (hb : PE X b tb) (hm : behindInMarks op b = false) : PE X (.Compare a [op] [b] pos) (tOp r ta tb) := by
  intro pins s σ H Q I h
  exact wpAny_Compare1 (binT ha hb I h fun v u s2 x y H2 I2 rx ry q => ho pins s2 σ H2 x y v u Q I2 rx ry q) hm
def tTest (t : TE) : TT := fun σ H Q => t σ H fun x H' => ∃ k, x = .bl k ∧ Q k H'
theorem pt_cmpR {op : CmpOp} {r : R2} (ho : OpR X (compareOp op) r) (ha : PE X a ta) (hb : PE X b tb) (hm : behindInMarks op b = false) : PT X (.Compare a [op] [b] pos) (tTest (tOp r ta tb)) := by
  intro pins s σ H Q I h
  refine wpAny_isTrue_Compare1 (thn (ha pins s σ H _ I h) fun v s1 ⟨x, H1, I1, r1, q1⟩ => thn (hb pins s1 σ H1 _ I1 q1) fun u s2 ⟨y, H2, I2, r2, q2⟩ =>
    thn (ho pins s2 σ H2 x y v u _ I2 r1 r2 q2) fun c s3 ⟨z, H3, I3, r3, k, e, q3⟩ => ?_) hm
  subst e
  cases r3
  exact wpAny_truthy_bool ⟨H3, I3, q3⟩
def tChain (r r' : R2) (ta tb tc : TE) : TE := fun σ H Q => ta σ H fun x H1 => tb σ H1 fun y H2 => r x y H2 fun z H3 => ∃ k, z = .bl k ∧
  (if k = true then tc σ H3 fun w' H4 => r' y w' H4 Q else Q (.bl false) H3)
theorem pe_chain {op op' : CmpOp} {r r' : R2} (ho : OpR X (compareOp op) r) (ho' : OpR X (compareOp op') r') (ha : PE X a ta) (hb : PE X b tb) (hc : PE X c tc)
    (hm : lastMarks [op, op'] [b, c] = false := by with_unfolding_all rfl) : PE X (.Compare a [op, op'] [b, c] pos) (tChain r r' ta tb tc) := by
  intro pins s σ H Q I h
  refine Compare_chain (thn (ha pins s σ H _ I h) fun v s1 ⟨x, H1, I1, r1, q1⟩ => chain_link (thn (hb pins s1 σ H1 _ I1 q1) fun u s2 ⟨y, H2, I2, r2, q2⟩ =>
    thn (ho pins s2 σ H2 x y v u _ I2 r1 r2 q2) fun d s3 ⟨z, H3, I3, r3, k, e, q3⟩ => ?_)) hm
  subst e
  cases r3
  refine wpAny_truthy_bool ?_
  cases k with
  | false => exact ite_ff ⟨.bl false, H3, I3, rfl, q3⟩
  | true => exact ite_tt (chain_last (thn (hc pins s3 σ H3 _ I3 q3) fun w' s4 ⟨z', H4, I4, r4, q4⟩ => ho' pins s4 σ H4 y z' u w' Q I4 r2 r4 q4))
theorem pt_chain {op op' : CmpOp} {r r' : R2} (ho : OpR X (compareOp op) r) (ho' : OpR X (compareOp op') r') (ha : PE X a ta) (hb : PE X b tb) (hc : PE X c tc)
    (hm : lastMarks [op, op'] [b, c] = false := by with_unfolding_all rfl) : PT X (.Compare a [op, op'] [b, c] pos) (tTest (tChain r r' ta tb tc)) := by
  intro pins s σ H Q I h
  refine isTrue_chain (thn (ha pins s σ H _ I h) fun v s1 ⟨x, H1, I1, r1, q1⟩ => test_link (thn (hb pins s1 σ H1 _ I1 q1) fun u s2 ⟨y, H2, I2, r2, q2⟩ =>
    thn (ho pins s2 σ H2 x y v u _ I2 r1 r2 q2) fun d s3 ⟨z, H3, I3, r3, k, e, q3⟩ => ?_)) hm
  subst e
  cases r3
  refine wpAny_truthy_bool ?_
  cases k with
  | false =>
    obtain ⟨k', e', q'⟩ := q3
    cases e'
    exact ite_ff ⟨H3, I3, q'⟩
  | true =>
    refine ite_tt (test_last (thn (hc pins s3 σ H3 _ I3 q3) fun w' s4 ⟨z', H4, I4, r4, q4⟩ => thn (ho' pins s4 σ H4 y z' u w' _ I4 r2 r4 q4) fun d' s5 ⟨z2, H5, I5, r5, k2, e2, q5⟩ => ?_))
    subst e2
    cases r5
    exact wpAny_truthy_bool ⟨H5, I5, q5⟩
def TruV (K : PySem.W.Frag) (x : V) (H : Hp) (k : Bool) : Prop :=
  match x with
  | .non => k = false
  | .bl b => k = b
  | .int i => k = (i != 0)
  | .str y => y.length ≤ sizeLine ∧ k = ((y.length : Int) != 0)
  | .byt y => y.size ≤ sizeLine ∧ k = ((y.size : Int) != 0)
  | .ref p => (∃ xs, SqL K H p xs ∧ k = !xs.isEmpty) ∨ (∃ xs, SqT K H p xs ∧ k = !xs.isEmpty) ∨ ∃ kvs, H p = some (.dK kvs) ∧ k = !kvs.isEmpty
  | _ => False
theorem isEmpty_kv {κ : Type} {kvs : List (κ × V)} {vs : List (κ × Value)} (r : KV kvs vs) : (!vs.isEmpty) = !kvs.isEmpty := by
  cases r <;> rfl
theorem isEmpty_of {xs : List V} {its : List Value} (r : Vals xs its) : (!its.toArray.isEmpty) = !xs.isEmpty := by
  cases r <;> simp
theorem line63 : (sizeLine : Nat) < 2 ^ 63 := by rw [sizeLine_eq]; decide
theorem tru_ok : TruR X (fun x H Q => ∃ k, TruV X.K x H k ∧ Q k H) := by
  intro pins s σ H x v Q I rx h
  obtain ⟨k, e, q⟩ := h
  have hl := line63
  have hs : sizeLine = 16777216 := sizeLine_eq
  cases x with
  | non =>
    cases rx
    have e' : k = false := e
    subst e'
    exact truthy_none ⟨H, I, q⟩
  | bl b =>
    cases rx
    have e' : k = b := e
    subst e'
    exact wpAny_truthy_bool ⟨H, I, q⟩
  | int i =>
    obtain ⟨t, rfl⟩ := rx
    have e' : k = (i != 0) := e
    subst e'
    exact PySem.P.truthy_int ⟨H, I, q⟩
  | str y =>
    obtain ⟨t, rfl⟩ := rx
    obtain ⟨hy, e'⟩ : y.length ≤ sizeLine ∧ k = ((y.length : Int) != 0) := e
    subst e'
    exact PySem.P.truthy_str (by omega) ⟨H, I.tok _, q⟩
  | byt y =>
    obtain ⟨t, rfl⟩ := rx
    obtain ⟨hy, e'⟩ : y.size ≤ sizeLine ∧ k = ((y.size : Int) != 0) := e
    subst e'
    exact PySem.W.truthy_bytes (by omega) ⟨H, I.tok _, q⟩
  | ref p =>
    cases rx
    have e' : (∃ xs, SqL X.K H p xs ∧ k = !xs.isEmpty) ∨ (∃ xs, SqT X.K H p xs ∧ k = !xs.isEmpty) ∨ ∃ kvs, H p = some (.dK kvs) ∧ k = !kvs.isEmpty := e
    rcases e' with ⟨xs, hx, e'⟩ | ⟨xs, hx, e'⟩ | ⟨kvs, hx, e'⟩
    · subst e'
      obtain ⟨its, r, pl, hz⟩ := I.list hx
      have hlen := r.length
      exact wpAny_truthy_list pl.isList (by simp only [List.size_toArray]; omega) ⟨H, I.tok _, by rw [isEmpty_of r]; exact q⟩
    · subst e'
      obtain ⟨its, r, pl, hz⟩ := I.tuple hx
      have hlen := r.length
      exact truthy_tuple pl (by simp only [List.size_toArray]; omega) ⟨H, I.tok _, by rw [isEmpty_of r]; exact q⟩
    · subst e'
      obtain ⟨hz, hS, vs, r, m⟩ : kvs.length ≤ sizeLine ∧ (p == sysModules) = false ∧ ∃ vs, KV kvs vs ∧ s.heap.DictOf (mixKind X.prog X.w) p vs := I.hok p _ hx
      have hlen : kvs.length = vs.length := Paired.length r
      exact wpAny_truthy_dict hS m (by omega) ⟨H, I.tok _, by rw [isEmpty_kv r]; exact q⟩
  | _ => exact (show False from e).elim
theorem pt_truth (ha : PE X a ta) (he : ∀ whole, isTrue a X.env whole = (do let v ← whole; standAt a.pos; holding [v] (truthy v))) :
    PT X a (fun σ H Q => ta σ H fun x H' => ∃ k, TruV X.K x H' k ∧ Q k H') := by
  intro pins s σ H Q I h
  exact isTrue_plain (thn (ha pins s σ H _ I h) fun v s1 ⟨x, H1, I1, r1, q1⟩ => tru_ok pins s1 σ H1 x v Q I1 r1 q1) (he _)
theorem op_add_str : OpR X (binaryOp .Add) (fun x y H Q => ∃ i j, x = .str i ∧ y = .str j ∧ i.length + j.length ≤ sizeLine ∧ Q (.str (i ++ j)) H) := by
  intro pins s σ H x y v u Q I rx ry h
  obtain ⟨i, j, rfl, rfl, hz, q⟩ := h
  obtain ⟨t, rfl⟩ := rx
  obtain ⟨t', rfl⟩ := ry
  exact add_str (fun t' tk => ⟨.str (i ++ j), H, I.tok _, ⟨_, rfl⟩, q⟩) hz
theorem vals1 {x : V} {us : List Value} (r : Vals [x] us) : ∃ u, us = [u] ∧ RelV x u := by
  cases r with
  | cons r1 r2 => cases r2; exact ⟨_, rfl, r1⟩
theorem vals2 {x y : V} {us : List Value} (r : Vals [x, y] us) : ∃ u w', us = [u, w'] ∧ RelV x u ∧ RelV y w' := by
  cases r with
  | cons r1 r2 =>
    cases r2 with
    | cons r3 r4 => cases r4; exact ⟨_, _, rfl, r1, r3⟩
theorem call_abs : CallR X (.builtin "abs") (fun xs H Q => ∃ i, xs = [.int i] ∧ Q (.int (if i < 0 then -i else i)) H) := by
  intro pins s σ H xs us Q I r h
  obtain ⟨i, rfl, q⟩ := h
  obtain ⟨u, rfl, t, rfl⟩ := vals1 r
  exact call_abs_int fun u tk => ⟨.int (if i < 0 then -i else i), H, I.tok _, ⟨_, rfl⟩, q⟩
theorem call_max2 (hc : X.calm = true) : CallR X (.builtin "max") (fun xs H Q => ∃ i j, xs = [.int i, .int j] ∧ Q (.int (if j > i then j else i)) H) := by
  intro pins s σ H xs us Q I r h
  obtain ⟨i, j, rfl, q⟩ := h
  obtain ⟨u, w', rfl, ⟨t, rfl⟩, ⟨t', rfl⟩⟩ := vals2 r
  refine max_two_ints (I.ok.hd hc) fun h' tk k => ⟨_, H, I.kept k, ?_, q⟩
  by_cases hj : j > i
  · rw [if_pos hj, if_pos hj]; exact ⟨_, rfl⟩
  · rw [if_neg hj, if_neg hj]; exact ⟨_, rfl⟩
theorem call_int1 : CallR X (.type "int") (fun xs H Q => (∃ i, xs = [.int i] ∧ Q (.int i) H) ∨ ∃ k, xs = [.bl k] ∧ Q (.int (if k then 1 else 0)) H) := by
  intro pins s σ H xs us Q I r h
  rcases h with ⟨i, rfl, q⟩ | ⟨k, rfl, q⟩
  · obtain ⟨u, rfl, t, rfl⟩ := vals1 r
    exact call_int_int ⟨.int i, H, I, ⟨_, rfl⟩, q⟩
  · obtain ⟨u, rfl, r1⟩ := vals1 r
    cases r1
    exact call_int_bool ⟨.int (if k then 1 else 0), H, I.tok _, ⟨_, rfl⟩, q⟩
theorem call_str_int : CallR X (.type "str") (fun xs H Q => ∃ i, xs = [.int i] ∧ i.natAbs.log2 < 1920 ∧ Q (.str (toString i)) H) := by
  intro pins s σ H xs us Q I r h
  obtain ⟨i, rfl, hz, q⟩ := h
  obtain ⟨u, rfl, t, rfl⟩ := vals1 r
  exact PySem.P.str_of_int hz ⟨.str _, H, I.tok _, ⟨_, rfl⟩, q⟩
end
end L2

namespace L2
open PySem PySem.Spec PyProof.Rows
structure ObjM (h : Heap) (x dx C : Addr) (mA : Str → Option Value) : Prop where
  obj : h.get? x = some (PySem.W.instObj C dx)
  ns : h.Ns1 dx mA
  ne : dx ≠ x

theorem lookIn_ns {h : Heap} {dx : Addr} {mA : Str → Option Value} (n : h.Ns1 dx mA) : ∃ od, h.get? dx = some od ∧ ∀ name, PySem.W.lookIn name od = some (mA name) := by
  obtain ⟨o, es, ep, ho, hd, hk, _, hm⟩ := n
  refine ⟨o, ho, fun name => ?_⟩
  have e := hm name
  unfold nsFind findBy at e
  rw [← Array.find?_toList] at e
  unfold PySem.W.lookIn
  rw [hd]
  dsimp only
  split
  · rename_i y q
    rw [q] at e
    exact congrArg some e
  · rename_i q
    rw [q] at e
    have a : es.toList.any (·.refKey) = false := by
      rw [List.any_eq_false]
      intro y hy
      obtain ⟨z, t, hkey⟩ := hk y (Array.mem_toList_iff.mp hy)
      simp [DictEntry.refKey, hkey]
    have a' : ¬ es.toList.any (·.refKey) = true := by rw [a]; exact Bool.false_ne_true
    rw [if_neg a']
    exact congrArg some e

theorem ObjM.look {h : Heap} {x dx C : Addr} {mA : Str → Option Value} (I : ObjM h x dx C mA) : ∃ od, PySem.W.InstAt h x (PySem.W.instObj C dx) C (some od) ∧ ∀ name, PySem.W.lookIn name od = some (mA name) :=
  let ⟨od, ho, hl⟩ := lookIn_ns I.ns
  ⟨od, ⟨I.obj, rfl, rfl, ho⟩, hl⟩

section
variable {prog : Program} {w : World} {A : Around} {E : Value → Shared → Prop} {s : Shared} {K : PySem.W.Frag} {x dx C f : Addr} {mA : Str → Option Value} {name : Str} {v : Value}

end
theorem RelO.some_of {v : V} {o : Option Value} (r : RelO (some v) o) : ∃ u, o = some u ∧ RelV v u := by
  cases o with
  | none => exact (show False from r).elim
  | some u => exact ⟨u, rfl, r⟩
theorem handed_of {v : V} {u : Value} (r : RelV v u) : PySem.W.handedIn u = true := by
  cases v with
  | non => cases (show u = Value.none from r); rfl
  | bl b => cases (show u = Value.bool b from r); rfl
  | int i => obtain ⟨t, e⟩ := (show ∃ t, u = Value.int i t from r); cases e; rfl
  | str x => obtain ⟨t, e⟩ := (show ∃ t, u = Value.str x t from r); cases e; rfl
  | byt b => obtain ⟨t, e⟩ := (show ∃ t, u = Value.bytes b t from r); cases e; rfl
  | flt b => obtain ⟨t, e⟩ := (show ∃ t, u = Value.float b t from r); cases e; rfl
  | ref a => cases (show u = Value.ref a from r); rfl
  | ty n => cases (show u = Value.type n from r); rfl

section
variable {P : Program} {w : World} {H H' : Hp} {h h' : Heap} {a C dx : Addr} {fs fs' : List (Str × V)}
theorem ins_get (hok : HOk P w H h) (e : H a = some (.ins C dx fs)) : ∃ mA, ObjM h a dx C mA ∧ (∀ f, RelO (fs.lookup f) (mA f)) ∧ PySem.Within mA (fs.map (·.1)) ∧ fs.length ≤ 1000 ∧ H dx = some (.own a) := by
  obtain ⟨d, z, ne, ob, mA, n, r, q⟩ := (show ObjOk P w H h a (.ins C dx fs) from hok a _ e)
  exact ⟨mA, ⟨ob, n, ne⟩, r, q, z, d⟩
end
structure Cls (K : PySem.W.Frag) (C : Addr) : Prop where
  pg : PySem.W.plainGet K C Str.empty = true
  hd : PySem.W.hasDictIn K C = true
  po : PySem.W.plainOver K C = true
  sa : PySem.W.findIn K (.ref C) "__setattr__" = some (some (.builtin "object.__setattr__"))
theorem Cls.get {K : PySem.W.Frag} {C : Addr} (c : Cls K C) (f : Str) : PySem.W.plainGet K C f = true := c.pg
section
variable {X : Cx} {pins : List (Addr × Obj)} {σ : St} {H : Hp} {s : Shared} {a C dx : Addr} {fs : List (Str × V)} {f : Str} {v : V} {A : Around} {E : Value → Shared → Prop}
theorem attr_of {prog : Program} {w : World} {env : Env} {e : Expr} {f : Str} {pos : Pos} {s : Shared} {Q : Value → Shared → Prop} (hb : attributeBase e f env (eval e env) = eval e env)
    (h : wpAny (model prog w) A (eval e env) (fun o s₁ => wpAny (model prog w) A (getAttr o f true) Q E s₁) E s) : wpAny (model prog w) A (eval (.Attribute e f pos) env) Q E s :=
  Attribute_any_ h (by rw [arm_eval_Attribute, hb])
end
section
variable {X : Cx} {o e value : Expr} {f : Str} {pos pos' tpos : Pos} {ta tv : TE}
end
section
variable {X : Cx} {pins : List (Addr × Obj)} {σ : St} {H : Hp} {s : Shared} {A : Around} {E : Value → Shared → Prop} {Q : Value → Shared → Prop} {c : Value} {b : Bool}
inductive TyOf (K : PySem.W.Frag) (H : Hp) : V → Value → Prop where
  | non : TyOf K H .non (.type "NoneType")
  | bl (x : Bool) : TyOf K H (.bl x) (.type "bool")
  | int (i : Int) : TyOf K H (.int i) (.type "int")
  | str (x : Str) : TyOf K H (.str x) (.type "str")
  | flt (x : UInt64) : TyOf K H (.flt x) (.type "float")
  | lst {a : Addr} {xs : List V} (e : H a = some (.lst xs)) : TyOf K H (.ref a) (.type "list")
  | frz {a : Addr} {o : Obj} {xs : List V} (e : H a = some (.frz o (.lst xs))) : TyOf K H (.ref a) (.type "list")
  | tup {a : Addr} {xs : List V} (e : H a = some (.tup xs)) : TyOf K H (.ref a) (.type "tuple")
  | dK {a : Addr} {kvs : List (Key × V)} (e : H a = some (.dK kvs)) : TyOf K H (.ref a) (.type "dict")
  | dT {a : Addr} {kvs : List (List Key × V)} (e : H a = some (.dT kvs)) : TyOf K H (.ref a) (.type "dict")
  | ins {a C dx : Addr} {fs : List (Str × V)} (e : H a = some (.ins C dx fs)) (cl : Cls K C) (ha : PySem.W.findIn K (.ref C) "__class__" = some (some (.builtin "object.__class__")))
      (hn : PySem.W.specialIn K (.builtin "object.__class__") "__get__" = some (some (.builtin "getset_descriptor.__get__"))) (htk : PySem.W.takesIn K (.builtin "object.__class__") = some true)
      (hm : PySem.W.mroIn K C (.type "object") = some true) : TyOf K H (.ref a) (.ref C)
theorem isinst_ok {x : V} {u t : Value} (I : Inv X pins σ H s) (rx : RelV x u) (ty : TyOf X.K H x t) (e : PySem.W.kitOne X.K t c = some b) (h : ∀ tk, Q (.bool b) { s with toks := tk }) :
    wpAny (model X.prog X.w) A (call (.builtin "isinstance") [u, c]) Q E s := by
  cases ty with
  | non => cases (show u = Value.none from rx); exact PySem.W.kia_one PySem.W.kitx_none I.kIn True.intro e (fun z => nomatch z) h
  | bl y => cases (show u = Value.bool y from rx); exact PySem.W.kia_one PySem.W.kitx_bool I.kIn True.intro e (fun z => nomatch z) h
  | int i => obtain ⟨t, q⟩ := (show ∃ t, u = Value.int i t from rx); cases q; exact PySem.W.kia_one PySem.W.kitx_int I.kIn True.intro e (fun z => nomatch z) h
  | str y => obtain ⟨t, q⟩ := (show ∃ t, u = Value.str y t from rx); cases q; exact PySem.W.kia_one PySem.W.kitx_str I.kIn True.intro e (fun z => nomatch z) h
  | flt y => obtain ⟨t, q⟩ := (show ∃ t, u = Value.float y t from rx); cases q; exact PySem.W.kia_one PySem.W.kitx_float I.kIn True.intro e (fun z => nomatch z) h
  | @lst a xs ea =>
    cases (show u = Value.ref a from rx)
    obtain ⟨_, _, n, _, h1⟩ := (show ObjOk X.prog X.w H s.heap a (.lst xs) from I.hok a _ ea)
    exact PySem.W.kia_one PySem.W.kitx_list I.kIn ⟨_, h1, rfl⟩ e (fun z => nomatch z) h
  | @frz a ob xs ea =>
    cases (show u = Value.ref a from rx)
    obtain ⟨_, _, _, n, _, h1⟩ := (show ObjOk X.prog X.w H s.heap a (.frz ob (.lst xs)) from I.hok a _ ea)
    exact PySem.W.kia_one PySem.W.kitx_list I.kIn ⟨_, h1, rfl⟩ e (fun z => nomatch z) h
  | @tup a xs ea =>
    cases (show u = Value.ref a from rx)
    obtain ⟨_, _, _, p'⟩ := (show ObjOk X.prog X.w H s.heap a (.tup xs) from I.hok a _ ea)
    have p := p'.tup
    obtain ⟨o, h1, h2, _⟩ := p
    exact PySem.W.kia_one PySem.W.kitx_tuple I.kIn ⟨o, h1, h2⟩ e (fun z => nomatch z) h
  | @dK a kvs ea =>
    cases (show u = Value.ref a from rx)
    obtain ⟨_, _, vs, _, p⟩ := (show ObjOk X.prog X.w H s.heap a (.dK kvs) from I.hok a _ ea)
    obtain ⟨o, es, ep, h1, h2, _⟩ := p
    exact PySem.W.kia_one PySem.W.kitx_dict I.kIn ⟨o, h1, h2.1⟩ e (fun z => nomatch z) h
  | @dT a kvs ea =>
    cases (show u = Value.ref a from rx)
    obtain ⟨_, _, xs, _, o, es, ep, h1, h2, _⟩ := (show ObjOk X.prog X.w H s.heap a (.dT kvs) from I.hok a _ ea)
    exact PySem.W.kia_one PySem.W.kitx_dict I.kIn ⟨o, h1, h2.1⟩ e (fun z => nomatch z) h
  | @ins a C dx fs ea cl ha hn htk hm =>
    cases (show u = Value.ref a from rx)
    obtain ⟨mA, O, _⟩ := ins_get I.hok ea
    obtain ⟨od, J, _⟩ := O.look
    exact PySem.W.kia_one (PySem.W.kitx_own (cl.get _) cl.hd ha hn htk hm) I.kIn J e (fun z => nomatch z) h
end
end L2

namespace L2
open PySem PySem.Spec PyProof.Rows
structure Room (k : Nat) (A : Around) : Prop where
  hd : A.handled = none
  dp : A.depth + 3 * k + 5 < recursionLimit
  un : A.units + 16 * k + 200 < cLine
  gd : A.guards = some []
theorem Room.mono {j k : Nat} {A : Around} (r : Room k A) (h : j ≤ k) : Room j A := ⟨r.hd, by have := r.dp; omega, by have := r.un; omega, r.gd⟩
theorem Room.deeper {k : Nat} {A : Around} (r : Room (k + 1) A) (env : Env) : Room k (A.deeper env) :=
  ⟨r.hd, by have := r.dp; show A.depth + 1 + 3 * k + 5 < _; omega, by have := r.un; show A.units + 3 + 16 * k + 200 < _; omega, r.gd⟩
theorem make_depth {A : Around} {C : Addr} {us : List Value} {kw : List (Str × Value)} : (A.under (.builtin "type.__call__" ⟨.ref C :: us, kw⟩)).depth = A.depth + 1 := by
  first | rfl | simp [Around.under, Code.weight, Code.isCreation, Code.isGuard, Code.isCaller, Code.frames, Code.isFrame, guardIds]
theorem make_units {A : Around} {C : Addr} {us : List Value} {kw : List (Str × Value)} : (A.under (.builtin "type.__call__" ⟨.ref C :: us, kw⟩)).units = A.units + 1 := by
  first | rfl | simp [Around.under, Code.cUnits, Code.frames, Code.isFrame]
theorem Room.make {k : Nat} {A : Around} (r : Room (k + 1) A) (C : Addr) (us : List Value) (kw : List (Str × Value)) : Room k (A.under (.builtin "type.__call__" ⟨.ref C :: us, kw⟩)) :=
  ⟨r.hd, by have := r.dp; rw [make_depth]; omega, by have := r.un; rw [make_units]; omega, (show _ from by first | exact r.gd | (simpa [Around.under, Code.isGuard, Code.guardAt, guardIds] using r.gd))⟩
theorem Room.depth {k : Nat} {A : Around} (r : Room k A) : A.depth < recursionLimit := by have := r.dp; omega
theorem Room.units {k : Nat} {A : Around} (r : Room k A) : A.units + 64 < cLine := by have := r.un; omega
theorem Room.units0 {k : Nat} {A : Around} (r : Room k A) : A.units < cLine := by have := r.un; omega
def tNil : TA := fun _ H Q => Q [] H
def tCons (ta : TE) (tr : TA) : TA := fun σ H Q => ta σ H fun x H1 => tr σ H1 fun xs H2 => Q (x :: xs) H2
section
variable {X : Cx} {e : Expr} {es : List Expr} {te : TE} {t : TA} {pos : Pos}
theorem pa_nil : PA X [] tNil := fun _ _ _ _ H Q I h => Calls.spliced_nil ⟨[], H, I, .nil, h⟩
theorem pa_cons (ha : PE X e te) (hr : PA X es t) (hs : starEach (e :: es) X.env = (false, eval e X.env) :: starEach es X.env := by rfl) : PA X (e :: es) (tCons te t) := by
  intro pos pins s σ H Q I h
  rw [hs]
  show wpAny _ _ (spliced ((false, eval e X.env) :: backTo pos (starEach es X.env))) _ _ s
  refine Calls.spliced_cons (thn (ha pins s σ H _ I h) fun u s1 ⟨x, H1, I1, r1, q1⟩ => ?_)
  exact thn (hr pos pins s1 σ H1 _ I1 q1) fun us s2 ⟨xs, H2, I2, r2, q2⟩ => ⟨x :: xs, H2, I2, .cons r1 r2, q2⟩
def tTup (t : TA) : TE := fun σ H Q => t σ H fun xs H1 => xs.length ≤ sizeLine ∧ ∀ p, H1 p = none → Q (.ref p) (upd H1 p (.tup xs))
def tLst (t : TA) : TE := fun σ H Q => t σ H fun xs H1 => xs.length ≤ sizeLine ∧ ∀ p, H1 p = none → Q (.ref p) (upd H1 p (.lst xs))
theorem pe_tup {x1} (h : PA X es t) : PE X (.Tuple es x1 pos) (tTup t) := by
  intro pins s σ H Q I hq
  refine wpAny_Tuple_spliced (thn (h pos pins s σ H _ I hq) fun us s1 ⟨xs, H1, I1, r, z, q⟩ => ⟨by rw [← r.length]; exact z, ?_⟩)
  have hf : H1 s1.heap.objs.size = none := I1.hok.fresh (Nat.le_refl _)
  refine ⟨.ref s1.heap.objs.size, upd H1 s1.heap.objs.size (.tup xs), I1.laid (t' := s1.toks) (fun b u e => Heap.get?_push_of_some _ e) (Nat.le_refl _) ?_, rfl, q _ hf⟩
  exact ⟨z, us, r, TupX.new _ _⟩
theorem pe_lst (h : PA X es t) : PE X (.List es pos) (tLst t) := by
  intro pins s σ H Q I hq
  refine wpAny_List_spliced (thn (h pos pins s σ H _ I hq) fun us s1 ⟨xs, H1, I1, r, z, q⟩ => ⟨by rw [← r.length]; exact z, ?_⟩)
  have hf : H1 s1.heap.objs.size = none := I1.hok.fresh (Nat.le_refl _)
  refine ⟨.ref s1.heap.objs.size, upd H1 s1.heap.objs.size (.lst xs), I1.laid (t' := s1.toks) (fun b u e => Heap.get?_push_of_some _ e) (Nat.le_refl _) ?_, rfl, q _ hf⟩
  exact ⟨z, us, 0, r, Heap.get?_push_size _ rfl⟩
end
abbrev Sp := List V → Hp → VK → XK → Prop
abbrev CXT := List Env → Hp → Shared → XK → Value → Shared → Prop
structure Env0 (P : Program) (w : World) (K : PySem.W.Frag) (mg : Str → Option Value) (base : Heap) (A : Around) (outer : List Env) (s : Shared) (H : Hp) : Prop where
  frames : A.frames = some outer
  mod : Mod K mg base
  bs : ∀ b o, base.get? b = some o → s.heap.get? b = some o ∧ H b = none
  bsz : base.objs.size ≤ s.heap.objs.size
  funs : s.heap.FunFrames base outer
  frf : ∀ b ∈ frs outer, H b = none
  hok : HOk P w H s.heap
  bare : AllBare s.gens
def CE (outer : List Env) (P : Program) (w : World) (H : Hp) (s : Shared) (Q : VK) (u : Value) (s' : Shared) : Prop :=
  ∃ v H', s'.os = s.os ∧ AllBare s'.gens ∧ Un (frs outer) [] H H' s.heap s'.heap ∧ HOk P w H' s'.heap ∧ RelV v u ∧ Q v H'
def CR (CX : CXT) (outer : List Env) (P : Program) (w : World) (H : Hp) (s : Shared) (Q : VK) (E : XK) (r : Result) (s' : Shared) : Prop :=
  match r with
  | .ok (.ret u) => CE outer P w H s Q u s'
  | .ok _ => False
  | .error e => CX outer H s E e s'
structure FnOk (P : Program) (w : World) (K : PySem.W.Frag) (mg : Str → Option Value) (base : Heap) (CX : CXT) (k : Nat) (f : Addr) (fd : FuncData) (ps : List Str) (sp : Sp) : Prop where
  len : ∀ vs H Q E, sp vs H Q E → vs.length = ps.length
  run : ∀ (A : Around) (outer : List Env) (s : Shared) (H : Hp) (args : Args) (us : List Value) (vs : List V) (Q : VK) (E : XK), Room k A → Env0 P w K mg base A outer s H → BindsTo s fd args (ps.zip us) → Vals vs us → sp vs H Q E →
    codeAny (model P w) A (.call (.ref f) args) (CR CX outer P w H s Q E) s
theorem FnOk.imp {P : Program} {w : World} {K : PySem.W.Frag} {mg : Str → Option Value} {base : Heap} {CX : CXT} {k : Nat} {f : Addr} {fd : FuncData} {ps : List Str} {sp sp' : Sp} (F : FnOk P w K mg base CX k f fd ps sp)
    (h : ∀ vs H Q E, sp' vs H Q E → sp vs H Q E) : FnOk P w K mg base CX k f fd ps sp' :=
  ⟨fun vs H Q E q => F.len vs H Q E (h _ _ _ _ q), fun A outer s H args us vs Q E hr he hb hv hs => F.run A outer s H args us vs Q E hr he hb hv (h _ _ _ _ hs)⟩

theorem Env0.make {P : Program} {w : World} {K : PySem.W.Frag} {mg : Str → Option Value} {base : Heap} {A : Around} {outer : List Env} {s : Shared} {H : Hp} (e : Env0 P w K mg base A outer s H) (C : Addr) (us : List Value) (kw : List (Str × Value)) :
    Env0 P w K mg base (A.under (.builtin "type.__call__" ⟨.ref C :: us, kw⟩)) outer s H := ⟨by first | exact e.frames | (simpa [Around.under, Code.envs, Code.isFrame, pushEnvs] using e.frames), e.mod, e.bs, e.bsz, e.funs, e.frf, e.hok, e.bare⟩
section
variable {X : Cx} {pins : List (Addr × Obj)} {σ : St} {H : Hp} {s s' : Shared}
theorem Inv.env0 (I : Inv X pins σ H s) : Env0 X.prog X.w X.K X.mg X.base X.A X.stack s H :=
  ⟨I.ok.frames, I.ok.mod, I.bs, Nat.le_trans I.ok.bsz I.sz, I.stack, I.stkFree, I.hok, I.bare⟩
theorem Inv.after {Q : VK} {u : Value} (I : Inv X pins σ H s) (h : CE X.stack X.prog X.w H s Q u s') : EP X pins σ Q u s' := by
  obtain ⟨v, H', os, bare, un, hok, r, q⟩ := h
  obtain ⟨hh, g, d, t, os'⟩ := s'
  obtain rfl : os' = s.os := os
  exact ⟨v, H', I.call (h' := hh) (g' := g) (d' := d) (t' := t) (ch := []) un hok bare (fun b z => absurd z (by simp)), r, q⟩
end
def tCall (sp : Sp) (dvs : List V) (E : XK) (t : TA) : TE := fun σ H Q => t σ H fun vs H1 => sp (vs ++ dvs) H1 Q E
def Binds (K : PySem.W.Frag) (fd : FuncData) (ps : List Str) (ds : List Value) : Prop :=
  ∀ (s : Shared) (us : List Value), K.In s.heap → (us ++ ds).length = ps.length → BindsTo s fd ⟨us, []⟩ (ps.zip (us ++ ds))
theorem Binds.all {K : PySem.W.Frag} {fd : FuncData} {ps : List Str} (h : ∀ us : List Value, us.length = ps.length → bindArgs fd ⟨us, []⟩ = pure (ps.zip us)) : Binds K fd ps [] := fun s us _ hl => by
  rw [List.append_nil] at hl ⊢
  exact .of_eq (h us hl)
def Passes (CX : CXT) (X : Cx) (E : XK) : Prop := ∀ (pins : List (Addr × Obj)) (σ : St) (H : Hp) (s : Shared) (e : Value) (s' : Shared), Inv X pins σ H s → CX X.stack H s E e s' → X.xe e s'

section
variable {X : Cx} {CX : CXT} {k : Nat} {f C : Addr} {fd : FuncData} {ps : List Str} {sp : Sp} {dvs : List V} {ds : List Value} {E : XK} {x m : Str} {p pos apos : Pos} {e o : Expr} {es : List Expr} {ta : TE} {t : TA}
theorem run_fn {pins : List (Addr × Obj)} {σ : St} {H : Hp} {s : Shared} {Q : VK} {us : List Value} {vs : List V} (F : FnOk X.prog X.w X.K X.mg X.base CX k f fd ps sp) (hr : Room k X.A) (hb : Binds X.K fd ps ds) (hd : Vals dvs ds) (hx : Passes CX X E)
    (I : Inv X pins σ H s) (r : Vals vs us) (h : sp (vs ++ dvs) H Q E) : wpAny (model X.prog X.w) X.A (call (.ref f) us) (EP X pins σ Q) X.xe s := by
  have r2 : Vals (vs ++ dvs) (us ++ ds) := r.append hd
  have hl : (us ++ ds).length = ps.length := by rw [← r2.length]; exact F.len _ _ _ _ h
  refine wpAny_call (codeAny_mono (F.run X.A X.stack s H ⟨us, []⟩ (us ++ ds) (vs ++ dvs) Q E hr I.env0 (hb s us I.kIn hl) r2 h) fun r s' hq => ?_)
  cases r with
  | error e => exact hx pins σ H s e s' I hq
  | ok fl =>
    cases fl with
    | ret u => exact I.after hq
    | next => exact False.elim hq
    | brk => exact False.elim hq
    | cont => exact False.elim hq

theorem pe_call (F : FnOk X.prog X.w X.K X.mg X.base CX k f fd ps sp) (hr : Room k X.A) (hg : Gl X x) (hm : X.mg x = some (.ref f)) (hk : PySem.W.keepIn X.K (.ref f) = true) (hb : Binds X.K fd ps ds) (hd : Vals dvs ds) (hx : Passes CX X E)
    (ha : PA X (e :: es) t) (hdb : (x == ("__debug__" : Str)) = false := by decide) (he : starEach (e :: es) X.env = (false, eval e X.env) :: starEach es X.env := by rfl) (hpl : (backTo pos (starEach es X.env)).any (·.1) = false := by rfl) :
    PE X (.Call (.Name x p) (e :: es) [] pos) (tCall sp dvs E t) := by
  intro pins s σ H Q I h
  refine wpAny_Call_Name_kw (ld_glob I hg hm ?_ hdb)
  refine PySem.W.callWith_K (h₀ := X.base) I.ok.mod.kin hk (thn (ha pos pins s σ H _ I h) fun us s1 ⟨vs, H1, I1, r, q⟩ => ⟨I1.kIn, ?_⟩) he hpl
  exact run_fn F hr hb hd hx I1 r q
end
section
variable {X : Cx} {CX : CXT} {k : Nat} {f C : Addr} {fd : FuncData} {ps ks : List Str} {sp : Sp} {E : XK} {x m : Str} {p pos apos kpos : Pos} {e o : Expr} {es : List Expr} {kws : List Keyword} {te ta : TE} {t tk : TA} {nm : Option Str}
variable {g : List Value → List Value → List Value} {gV : List V → List V → List V}
end
structure FnScope (N P : List Str) (sc : Scope) : Prop where
  kind : sc.kind = .function
  co : sc.isCoroutine = false
  gen : sc.isGenerator = false
  nd : N.Nodup
  pre : N.take P.length = P
  par : ∀ x ∈ P, sc.names.lookup x = some .local ∨ sc.names.lookup x = some .cell
  nofree : ∀ y ∈ sc.names, y.2 ≠ .free

theorem bindL_out {kindOf : Str → Option NameKind} {x : Str} : ∀ {binds : List (Str × Value)} {m : Str → Option Value}, (∀ v, (x, v) ∉ binds) → bindL kindOf binds m x = m x
  | [], _, _ => rfl
  | (n, v) :: r, m, h => by
    unfold bindL
    rw [bindL_out fun w hw => h w (List.mem_cons_of_mem _ hw)]
    split
    · have : x ≠ n := by rintro rfl; exact h v List.mem_cons_self
      simp [this]
    · rfl
theorem bindC_out {kindOf : Str → Option NameKind} {x : Str} : ∀ {binds : List (Str × Value)} {m : Str → Option Value}, (∀ v, (x, v) ∉ binds) → bindC kindOf binds m x = m x
  | [], _, _ => rfl
  | (n, v) :: r, m, h => by
    unfold bindC
    rw [bindC_out fun w hw => h w (List.mem_cons_of_mem _ hw)]
    split
    · rfl
    · have : x ≠ n := by rintro rfl; exact h v List.mem_cons_self
      simp [this]
theorem bindL_get {kindOf : Str → Option NameKind} {x : Str} {v : Value} : ∀ {P : List Str} {vs : List Value} {i : Nat} {m : Str → Option Value}, P.Nodup → P[i]? = some x → vs[i]? = some v → kindOf x = some .local →
    bindL kindOf (P.zip vs) m x = some v
  | [], _, _, _, _, h, _, _ => by simp at h
  | _ :: _, [], _, _, _, _, h, _ => by simp at h
  | p :: P, w :: vs, 0, m, nd, h1, h2, hk => by
    simp at h1 h2; subst h1; subst h2
    show bindL kindOf ((p, w) :: P.zip vs) m p = _
    unfold bindL
    rw [bindL_out fun v hv => (List.nodup_cons.mp nd).1 (List.of_mem_zip hv).1, if_pos hk]
    simp
  | p :: P, w :: vs, i + 1, m, nd, h1, h2, hk => by
    show bindL kindOf ((p, w) :: P.zip vs) m x = _
    unfold bindL
    exact bindL_get (i := i) (List.nodup_cons.mp nd).2 (by simpa using h1) (by simpa using h2) hk
theorem bindC_get {kindOf : Str → Option NameKind} {x : Str} {v : Value} : ∀ {P : List Str} {vs : List Value} {i : Nat} {m : Str → Option Value}, P.Nodup → P[i]? = some x → vs[i]? = some v → kindOf x ≠ some .local →
    bindC kindOf (P.zip vs) m x = some v
  | [], _, _, _, _, h, _, _ => by simp at h
  | _ :: _, [], _, _, _, _, h, _ => by simp at h
  | p :: P, w :: vs, 0, m, nd, h1, h2, hk => by
    simp at h1 h2; subst h1; subst h2
    show bindC kindOf ((p, w) :: P.zip vs) m p = _
    unfold bindC
    rw [bindC_out fun v hv => (List.nodup_cons.mp nd).1 (List.of_mem_zip hv).1, if_neg hk]
    simp
  | p :: P, w :: vs, i + 1, m, nd, h1, h2, hk => by
    show bindC kindOf ((p, w) :: P.zip vs) m x = _
    unfold bindC
    exact bindC_get (i := i) (List.nodup_cons.mp nd).2 (by simpa using h1) (by simpa using h2) hk
def start (N : List Str) (vs : List V) : St := vs.map some ++ List.replicate (N.length - vs.length) none
def cxOf (CX : CXT) (P : Program) (w : World) (K : PySem.W.Frag) (mg : Str → Option Value) (base : Heap) (N : List Str) (qual : Str) (scope : Scope) (f : Addr) (cd : Value) (A : Around) (outer : List Env) (s : Shared) (H : Hp) (E : XK) : Cx where
  prog := P
  w := w
  K := K
  mg := mg
  base := base
  A := A.deeper (envOfC qual scope s.heap.objs.size f cd)
  N := N
  s₀ := s
  H₀ := H
  env := envOfC qual scope s.heap.objs.size f cd
  outer := outer
  stack := envOfC qual scope s.heap.objs.size f cd :: outer
  ex := []
  calm := true
  fn := fun _ => true
  pn := []
  xe := fun e s' => wpAny (model P w) (A.deeper (envOfC qual scope s.heap.objs.size f cd)) (leaving (envOfC qual scope s.heap.objs.size f cd) e) (fun _ s'' => CX outer H s E e s'') (fun e' s'' => CX outer H s E e' s'') s'

theorem cell_has {sc : Scope} {n : Nat} {x : Str} (h : sc.names.lookup x = some .cell) : ∃ c, (cellsFrom n sc.names []).lookup x = some c := by
  have q := PySem.W.cellsFrom_some sc.names n [] (.inl h)
  exact Option.isSome_iff_exists.mp q

theorem inv_start {CX : CXT} {P : Program} {w : World} {K : PySem.W.Frag} {mg : Str → Option Value} {base : Heap} {N ps : List Str} {qual : Str} {scope : Scope} {f : Addr} {cd : Value} {A : Around} {outer : List Env} {s s1 : Shared} {H : Hp} {E : XK} {us : List Value} {vs : List V}
    (S : FnScope N ps scope) (hd : A.handled = none) (e0 : Env0 P w K mg base A outer s H) (hl : vs.length = ps.length) (r : Vals vs us)
    (x : InCallC s s.heap.objs.size (bindL (envOfC qual scope s.heap.objs.size f cd).kindOf (ps.zip us) fun _ => none) (cellsFrom (s.heap.objs.size + 1) scope.names []) (bindC (envOfC qual scope s.heap.objs.size f cd).kindOf (ps.zip us) fun _ => none) s1) :
    Inv (cxOf CX P w K mg base N qual scope f cd A outer s H E) [] (start N vs) H s1 := by
  have hpl : ps.length ≤ N.length := by have := congrArg List.length S.pre; rw [List.length_take] at this; omega
  obtain ⟨h1, tk, rfl, hk⟩ := x.done
  have noA : ∀ b : Addr, b ∉ (cxOf CX P w K mg base N qual scope f cd A outer s H E).ex := fun b z => absurd (show b ∈ ([] : List Addr) from z) (by simp)
  refine ⟨⟨e0.mod, S.kind, rfl, rfl, Nat.le_refl _, fun y z c h1 h2 => ?_, fun y hy => ?_, fun y c _ h => ?_, fun _ => hd, Around.frames_deeper e0.frames, .inr ⟨rfl, rfl⟩, fun b z => absurd z (noA b), e0.bs, e0.bsz, fun b _ _ => noA b, fun b z => absurd z (noA b), e0.funs, e0.frf⟩,
    rfl, e0.bare, Un.kept hk, ⟨_, x.toInCall.ns, fun i y v h1 h2 h3 => ?_⟩, fun y c h => ⟨_, x.cell y c h⟩, e0.hok.fresh (Nat.le_refl _), fun y c h => ?_, fun p hp => absurd (show p ∈ ([] : List (Addr × Obj)) from hp) (by simp), e0.hok.kept hk, ?_⟩
  · exact name_of_addr x.apart (PySem.mem_of_lookup h1) (PySem.mem_of_lookup h2)
  · have hy : scope.names.lookup y = some .cell ∨ scope.names.lookup y = some .free := hy
    rcases hy with hy | hy
    · exact cell_has hy
    · exact absurd rfl (S.nofree _ (PySem.mem_of_lookup hy))
  · exact Nat.le_of_lt (x.above y c (PySem.mem_of_lookup h))
  · have hi : i < vs.length := by
      unfold start at h2
      by_cases hi : i < vs.length
      · exact hi
      · rw [List.getElem?_append_right (by simpa using hi)] at h2
        rw [List.getElem?_replicate] at h2
        split at h2 <;> cases h2
    have ha : vs[i]? = some v := by
      unfold start at h2
      rw [List.getElem?_append_left (by simpa using hi), List.getElem?_map] at h2
      cases e : vs[i]? with
      | none => rw [e] at h2; cases h2
      | some a => rw [e] at h2; cases h2; rfl
    obtain ⟨u, hu, rv⟩ := r.get ha
    have hp : ps[i]? = some y := by
      rw [← S.pre, List.getElem?_take_of_lt (by omega)]; exact h1
    have ndP : ps.Nodup := by rw [← S.pre]; exact S.nd.sublist (List.take_sublist _ _)
    refine ⟨u, rv, ?_⟩
    rcases S.par y (List.mem_of_getElem? hp) with k | k
    · exact .inl ⟨k, bindL_get ndP hp hu k⟩
    · obtain ⟨c, e⟩ := cell_has (n := s.heap.objs.size + 1) k
      refine .inr ⟨.inl k, c, e, ?_⟩
      have q := x.cell y c e
      rw [bindC_get ndP hp hu (by show scope.names.lookup y ≠ _; rw [k]; decide)] at q
      exact q
  · exact e0.hok.fresh (Nat.le_of_lt (x.above y c (PySem.mem_of_lookup h)))
  · unfold start
    show _ = N.length
    rw [List.length_append, List.length_map, List.length_replicate]
    omega
theorem fn_of {CX : CXT} {P : Program} {w : World} {K : PySem.W.Frag} {mg : Str → Option Value} {base : Heap} {k : Nat} {f : Addr} {name qual : Str} {params : Arguments} {body : List Stmt} {scope : Scope} {dV kV doc pm cdv ct oc : Value} {an od : Option Addr}
    {osl : Array (Option Value)} {N ps : List Str} {sp : Sp} (lk : K.lookup f = some ⟨oc, od, .func (PySem.W.fnOf name qual params body scope dV kV doc pm an cdv ct), osl⟩) (hcd : PySem.W.codeIn K cdv qual = true) (S : FnScope N ps scope)
    (len : ∀ vs H Q E, sp vs H Q E → vs.length = ps.length)
    (hbody : ∀ (A : Around) (outer : List Env) (s : Shared) (H : Hp) (vs : List V) (Q : VK) (E : XK), Room k (A.deeper (envOfC qual scope s.heap.objs.size f cdv)) → sp vs H Q E →
      ∃ t, PSs (cxOf CX P w K mg base N qual scope f cdv A outer s H E) body t ∧ t { nx := fun _ H' => Q .non H', rt := Q } (start N vs) H) :
    FnOk P w K mg base CX (k + 1) f (PySem.W.fnOf name qual params body scope dV kV doc pm an cdv ct) ps sp := by
  refine ⟨len, fun A outer s H args us vs Q E hr e0 hb r hsp => ?_⟩
  have hl := len _ _ _ _ hsp
  have KX : K.In s.heap := e0.mod.kin.keeps fun b o e => (e0.bs b o e).1
  have lim : s.heap.NoLimit := e0.mod.nolimit.keeps fun b o e => (e0.bs b o e).1
  have hkind : ∀ y ∈ ps.zip us, scope.names.lookup y.1 = some .local ∨ (scope.names.lookup y.1 = some .cell ∧ ((cellsFrom (s.heap.objs.size + 1) scope.names []).lookup y.1).isSome = true) := fun ⟨n, v⟩ hy => by
    rcases S.par n (List.of_mem_zip hy).1 with q | q
    · exact .inl q
    · exact .inr ⟨q, PySem.W.cellsFrom_some _ _ _ (.inl q)⟩
  refine codeAny_call_function hr.depth (KX _ _ lk) rfl S.co S.gen rfl (PySem.W.codeRec_of KX hcd) (hb _ _ _ _ ?_)
  refine wpAny_newFunctionEnv_cells S.kind hkind fun env he s1 x => ?_
  subst he
  refine ⟨lim.keeps x.toInCall.keep, codeAny_func ?_⟩
  obtain ⟨t, ht, hq⟩ := hbody A outer s H vs Q E (hr.deeper _) hsp
  have I : Inv (cxOf CX P w K mg base N qual scope f cdv A outer s H E) [] (start N vs) H s1 := inv_start S hr.hd e0 hl r x
  refine wpAny_mono (ht [] s1 (start N vs) H _ I hq) (fun fl s' hs => ?_) fun e s' hs => hs
  have fin : ∀ {σ' : St} {H' : Hp} {v : V} {u : Value}, Inv (cxOf CX P w K mg base N qual scope f cdv A outer s H E) [] σ' H' s' → RelV v u → Q v H' → CE outer P w H s Q u s' :=
    fun {σ' H' v u} J rv q => ⟨v, H', J.os, J.bare, J.base, J.hok, rv, q⟩
  cases fl with
  | ret u =>
    obtain ⟨v, σ', H', J, rv, q⟩ := hs
    exact fin J rv q
  | next =>
    obtain ⟨σ', H', J, q⟩ := hs
    exact fin (v := V.non) (u := Value.none) J rfl q
  | brk =>
    obtain ⟨_, _, _, q⟩ := hs
    exact False.elim q
  | cont =>
    obtain ⟨_, _, _, q⟩ := hs
    exact False.elim q
end L2

namespace L2
open PySem PySem.Spec PyProof.Rows
section
variable {X : Cx} {x : Str} {p pos : Pos} {e : Expr} {es : List Expr} {t : TA} {id T : String} {r : List V → Hp → VK → Prop}

def tCB (r : List V → Hp → VK → Prop) (t : TA) : TE := fun σ H Q => t σ H fun vs H1 => r vs H1 Q
theorem pe_callB (hc : CallR X (.builtin id) r) (hg : Gl X x) (hm : X.mg x = none) (hv : bootBuiltins x = some (.builtin id)) (ha : PA X (e :: es) t) (hn : x ≠ "__name__" := by decide) (hdb : (x == ("__debug__" : Str)) = false := by decide)
    (he : starEach (e :: es) X.env = (false, eval e X.env) :: starEach es X.env := by rfl) (hpl : (backTo pos (starEach es X.env)).any (·.1) = false := by rfl) : PE X (.Call (.Name x p) (e :: es) [] pos) (tCB r t) := by
  intro pins s σ H Q I h
  refine wpAny_Call_Name_kw (ld_blt I hg hm hv ?_ hn hdb)
  exact PyProof.Rows.callWith_builtin1 (thn (ha pos pins s σ H _ I h) fun us s1 ⟨vs, H1, I1, r1, q1⟩ => hc pins s1 σ H1 vs us Q I1 r1 q1) he hpl
theorem pe_callTy (hc : CallR X (.type T) r) (hg : Gl X x) (hm : X.mg x = none) (hv : bootBuiltins x = some (.type T)) (ha : PA X (e :: es) t) (hn : x ≠ "__name__" := by decide) (hdb : (x == ("__debug__" : Str)) = false := by decide)
    (he : starEach (e :: es) X.env = (false, eval e X.env) :: starEach es X.env := by rfl) (hpl : (backTo pos (starEach es X.env)).any (·.1) = false := by rfl) : PE X (.Call (.Name x p) (e :: es) [] pos) (tCB r t) := by
  intro pins s σ H Q I h
  refine wpAny_Call_Name_kw (ld_blt I hg hm hv ?_ hn hdb)
  exact PyProof.Rows.callWith_type1 (thn (ha pos pins s σ H _ I h) fun us s1 ⟨vs, H1, I1, r1, q1⟩ => hc pins s1 σ H1 vs us Q I1 r1 q1) he hpl
end
end L2

namespace HT
open PySem PyProof.Rows

section
open PySem.SeqAt
open PySem.AutoSeq1 (wpAny_loadPart')
open PySem.MeetsSeq PySem.MeetsSeq2 PySem.MeetsSeq3

end

section
variable {prog : Program} {w : World} {A : Around} {E : Value → Shared → Prop} {s : Shared}
def sIx (n d : Nat) : Option Int → Nat
  | none => d
  | some v => if v < 0 then (v + (n : Int)).toNat else min v.toNat n
theorem sIx_none (n d : Nat) : sIx n d none = d := rfl
theorem sIx_nat (n d k : Nat) : sIx n d (some (k : Int)) = min k n := by
  show (if (k : Int) < 0 then ((k : Int) + (n : Int)).toNat else min (k : Int).toNat n) = min k n
  rw [if_neg (by omega), Int.toNat_natCast]
end
end HT

namespace L2
open PySem PySem.Spec PyProof.Rows
abbrev TO := St → Hp → (Option Int → Hp → Prop) → Prop
def PO (X : Cx) (e : Option Expr) (t : TO) : Prop :=
  ∀ (pins : List (Addr × Obj)) (s : Shared) (σ : St) (H : Hp) (Q : Option Int → Hp → Prop), Inv X pins σ H s → t σ H Q →
    wpAny (model X.prog X.w) X.A (evalPart e X.env) (fun u s' => ∃ o H', Inv X pins σ H' s' ∧ IsPart u o ∧ Q o H') X.xe s
def tNoPart : TO := fun _ H Q => Q none H
def tPart (t : TE) : TO := fun σ H Q => t σ H fun x H1 => ∃ i, x = .int i ∧ Q (some i) H1

section
variable {X : Cx} {e : Expr} {te : TE} {lo hi : Option Expr} {tl th : TO} {pos p2 : Pos}

theorem po_none : PO X none tNoPart := by
  intro pins s σ H Q I h
  rw [evalPart_none]
  exact wpAny_pure ⟨none, H, I, .none, h⟩
theorem po_some (h : PE X e te) : PO X (some e) (tPart te) := by
  intro pins s σ H Q I hw
  rw [evalPart_some]
  refine thn (h pins s σ H _ I hw) fun u s1 ⟨x, H1, I1, r1, q1⟩ => ?_
  obtain ⟨i, rfl, q⟩ := q1
  obtain ⟨t, rfl⟩ := r1
  exact ⟨some i, H1, I1, .int i t, q⟩
def SlR (X : Cx) (r : V → Option Int → Option Int → Hp → VK → Prop) : Prop :=
  ∀ (pins : List (Addr × Obj)) (s : Shared) (σ : St) (H : Hp) (x : V) (v vl vu : Value) (lo hi : Option Int) (sl : Addr) (Q : VK), Inv X pins σ H s → RelV x v → s.heap.IsSliceOf sl vl vu .none → IsPart vl lo → IsPart vu hi → r x lo hi H Q →
    ∃ T id, typeLookup (.type T) "__getitem__" = pure (some (.builtin id)) ∧ s.TypeIs v T ∧ wpAny (model X.prog X.w) X.A (getItem v (.ref sl)) (EP X pins σ Q) X.xe s
def tSl (r : V → Option Int → Option Int → Hp → VK → Prop) (te : TE) (tl th : TO) : TE := fun σ H Q => te σ H fun x H1 => tl σ H1 fun l H2 => th σ H2 fun u H3 => r x l u H3 Q
theorem pe_slice {r : V → Option Int → Option Int → Hp → VK → Prop} (hr : SlR X r) (he : PE X e te) (hl : PO X lo tl) (hu : PO X hi th) : PE X (.Subscript e (.Slice lo hi none p2) pos) (tSl r te tl th) := by
  intro pins s σ H Q I h
  refine Subscript_ (thn (he pins s σ H _ I h) fun v s1 ⟨x, H1, I1, r1, q1⟩ => ?_)
  refine wpAny_Slice (thn (hl pins s1 σ H1 _ I1 q1) fun vl s2 ⟨l, H2, I2, pl, q2⟩ => thn (hu pins s2 σ H2 _ I2 q2) fun vu s3 ⟨u, H3, I3, pu, q3⟩ => ?_)
  rw [evalPart_none]
  refine wpAny_pure ?_
  have I4 : Inv X pins σ H3 { s3 with heap := s3.heap.push { cls := .type "slice", data := .fields #[vl, vu, .none] } } := I3.kept (t' := s3.toks) fun b ob q => Heap.get?_push_of_some _ q
  obtain ⟨T, id, hT, ht, hg⟩ := hr pins { s3 with heap := s3.heap.push { cls := .type "slice", data := .fields #[vl, vu, .none] } } σ H3 x v vl vu l u s3.heap.objs.size Q I4 r1 (Heap.IsSliceOf.new ..) pl pu q3
  show wpAny (model X.prog X.w) X.A (subscriptTail e (.Slice lo hi none p2) v (.ref s3.heap.objs.size)) (EP X pins σ Q) X.xe { s3 with heap := s3.heap.push { cls := .type "slice", data := .fields #[vl, vu, .none] } }
  exact tail_any (ops := [.ref s3.heap.objs.size, v]) ht hT hg (by with_unfolding_all rfl)
def cutV (xs : List V) (lo hi : Option Int) : List V := (xs.drop (HT.sIx xs.length 0 lo)).take (HT.sIx xs.length xs.length hi - HT.sIx xs.length 0 lo)
theorem cutV_length (xs : List V) (lo hi : Option Int) : (cutV xs lo hi).length ≤ xs.length := by
  unfold cutV
  rw [List.length_take, List.length_drop]
  omega
end
end L2

namespace L2
open PySem PySem.Spec PyProof.Rows
def ixN (n : Nat) (i : Int) : Option Nat := if 0 ≤ i then (if i < n then some i.toNat else none) else if -(n : Int) ≤ i then some (i + n).toNat else none
def atI {α : Type} (xs : List α) (i : Int) : Option α := (ixN xs.length i).bind fun j => xs[j]?
theorem ixN_seq {n : Nat} {i : Int} {j : Nat} (h : ixN n i = some j) : seqIndex? i n = some j ∧ j < n ∧ -(n : Int) ≤ i ∧ i < n := by
  unfold ixN at h
  by_cases h0 : 0 ≤ i
  · rw [if_pos h0] at h
    by_cases h1 : i < n
    · rw [if_pos h1] at h
      have e : i.toNat = j := Option.some.inj h
      exact ⟨by rw [seqIndex_of h0 h1, e], by omega, by omega, h1⟩
    · rw [if_neg h1] at h; cases h
  · rw [if_neg h0] at h
    by_cases h1 : -(n : Int) ≤ i
    · rw [if_pos h1] at h
      have e : (i + n).toNat = j := Option.some.inj h
      exact ⟨by rw [seqIndex_neg (by omega) h1, e], by omega, h1, by omega⟩
    · rw [if_neg h1] at h; cases h
theorem atI_get {α : Type} {xs : List α} {i : Int} {v : α} (h : atI xs i = some v) : ∃ j, seqIndex? i xs.length = some j ∧ xs[j]? = some v ∧ j < xs.length ∧ -(xs.length : Int) ≤ i ∧ i < xs.length := by
  unfold atI at h
  cases e : ixN xs.length i with
  | none => rw [e] at h; cases h
  | some j =>
    rw [e] at h
    obtain ⟨h1, h2, h3, h4⟩ := ixN_seq e
    exact ⟨j, h1, h, h2, h3, h4⟩
theorem atI_nat {α : Type} {xs : List α} {j : Nat} {v : α} (h : xs[j]? = some v) : atI xs (j : Int) = some v := by
  have hj : j < xs.length := (List.getElem?_eq_some_iff.mp h).1
  have e : ixN xs.length (j : Int) = some j := by
    unfold ixN
    rw [if_pos (by omega), if_pos (by omega)]; simp
  unfold atI; rw [e]; exact h
def PlainIx (b : Expr) : Prop := ∀ o i, subscripted b false o i = operate [o, i] (getItem o i)
def IxR (X : Cx) (r : R2) : Prop :=
  ∀ (value slice : Expr) (pins : List (Addr × Obj)) (s : Shared) (σ : St) (H : Hp) (x y : V) (v u : Value) (Q : VK), Inv X pins σ H s → RelV x v → RelV y u → r x y H Q →
    subscripted slice false v u = operate [v, u] (getItem v u) → wpAny (model X.prog X.w) X.A (subscriptTail value slice v u) (EP X pins σ Q) X.xe s
def MtR (X : Cx) (id : String) (r : V → List V → Hp → VK → Prop) : Prop :=
  ∀ (pins : List (Addr × Obj)) (s : Shared) (σ : St) (H : Hp) (x : V) (xs : List V) (v : Value) (us : List Value) (Q : VK), Inv X pins σ H s → RelV x v → Vals xs us → r x xs H Q →
    wpAny (model X.prog X.w) X.A (call (.builtin id) (v :: us)) (EP X pins σ Q) X.xe s
section
variable {X : Cx} {a b : Expr} {ta tb : TE} {pos : Pos}
theorem pe_ix {r : R2} (hr : IxR X r) (ha : PE X a ta) (hb : PE X b tb) (hs : PlainIx b) : PE X (.Subscript a b pos) (tOp r ta tb) := by
  intro pins s σ H Q I h
  exact Subscript_ (binT ha hb I h fun v u s2 x y H2 I2 rx ry q => hr a b pins s2 σ H2 x y v u Q I2 rx ry q (hs _ _))

def rIxL (K : PySem.W.Frag) : R2 := fun x y H Q => ∃ p xs i v, x = .ref p ∧ y = .int i ∧ SqL K H p xs ∧ atI xs i = some v ∧ Q v H
def rIxT (K : PySem.W.Frag) : R2 := fun x y H Q => ∃ p xs i v, x = .ref p ∧ y = .int i ∧ SqT K H p xs ∧ atI xs i = some v ∧ Q v H
def rIxS : R2 := fun x y H Q => ∃ z i c, x = .str z ∧ y = .int i ∧ z.length ≤ sizeLine ∧ atI z.cps.toList i = some c ∧ Q (.str ⟨#[c]⟩) H
theorem ix_list : IxR X (rIxL X.K) := by
  intro value slice pins s σ H x y v u Q I rx ry h hs
  obtain ⟨p, xs, i, z, rfl, rfl, hq, he, q⟩ := h
  cases rx
  obtain ⟨t, rfl⟩ := ry
  obtain ⟨its, r, pl, hz⟩ := I.list hq
  obtain ⟨j, h1, h2, h3, h4, h5⟩ := atI_get he
  obtain ⟨w, ew, rw'⟩ := r.get h2
  have hl := r.length
  have hn := line63
  have fin : EP X pins σ Q w s := ⟨z, H, I, rw', q⟩
  by_cases h0 : 0 ≤ i
  · have hj : i.toNat = j := by
      rw [seqIndex_of h0 h5] at h1
      exact Option.some.inj h1
    exact item_listR pl.isList h0 (by omega) (by rw [hj]; simpa using ew) fin hs
  · have hj : (i + (its.toArray.size : Int)).toNat = j := by
      rw [seqIndex_neg (by omega) h4] at h1
      rw [List.size_toArray, ← hl]
      exact Option.some.inj h1
    exact subscriptTail_builtinR (x := w) pl.isList.typeIs slot_list_getitem.lookup
      (wpAny_getItem_list_neg (Q := fun r s' => r = w ∧ EP X pins σ Q r s') pl.isList (by omega) (by rw [List.size_toArray] <;> omega) (by omega) (by rw [hj]; simpa using ew) ⟨rfl, fin⟩) hs
theorem ix_tup : IxR X (rIxT X.K) := by
  intro value slice pins s σ H x y v u Q I rx ry h hs
  obtain ⟨p, xs, i, z, rfl, rfl, hq, he, q⟩ := h
  cases rx
  obtain ⟨t, rfl⟩ := ry
  obtain ⟨its, r, pl, hz⟩ := I.tuple hq
  obtain ⟨j, h1, h2, h3, h4, h5⟩ := atI_get he
  obtain ⟨w, ew, rw'⟩ := r.get h2
  have hl := r.length
  have hn := line63
  have fin : EP X pins σ Q w s := ⟨z, H, I, rw', q⟩
  exact subscriptTail_builtinR (x := w) pl.typeIs slot_tuple_getitem.lookup
    (getItem_tuple (j := j) (Q := fun r s' => r = w ∧ EP X pins σ Q r s') pl (by omega) (by omega) (by rw [List.size_toArray, ← hl]; exact h1) (by simpa using ew) ⟨rfl, fin⟩) hs
theorem ix_str : IxR X rIxS := by
  intro value slice pins s σ H x y v u Q I rx ry h hs
  obtain ⟨z, i, c, rfl, rfl, hz, he, q⟩ := h
  obtain ⟨t, rfl⟩ := rx
  obtain ⟨t', rfl⟩ := ry
  obtain ⟨j, h1, h2, h3, h4, h5⟩ := atI_get he
  have hl : z.cps.toList.length = z.length := by simp [Str.length]
  rw [hl] at h1 h4 h5
  have hn := line63
  exact tail_any (typeIs_str s z t) slot_str_getitem.lookup (getItem_str (c := c) (by
    have e1 : decide (i < -(2 ^ 63 : Int)) = false := decide_eq_false (by omega)
    have e2 : decide (i ≥ 2 ^ 63) = false := decide_eq_false (by omega)
    rw [e1, e2, Bool.or_false]) (by rw [h1]; simpa using h2) ⟨.str ⟨#[c]⟩, H, I.tok _, ⟨_, rfl⟩, q⟩) hs
theorem mapSeq_set (its : List Value) (n j : Nat) (u : Value) : Obj.mapSeq (·.setIfInBounds j u) { cls := .type "list", data := .seq its.toArray n } = { cls := .type "list", data := .seq (its.set j u).toArray n } := by
  simp [Obj.mapSeq]
theorem Inv.lst {pins : List (Addr × Obj)} {σ : St} {H : Hp} {s : Shared} {p : Addr} {xs : List V} (I : Inv X pins σ H s) (h : H p = some (.lst xs)) :
    ∃ (its : List Value) (n : Nat), Vals xs its ∧ s.heap.get? p = some { cls := .type "list", data := .seq its.toArray n } ∧ xs.length ≤ sizeLine := by
  obtain ⟨z, its, n, r, e⟩ := I.hok p _ h
  exact ⟨its, n, r, e, z⟩
theorem Inv.lstUpd {pins : List (Addr × Obj)} {σ : St} {H : Hp} {s : Shared} {p : Addr} {xs ys : List V} {its its' : List Value} {n n' : Nat} {f : Obj → Obj} (I : Inv X pins σ H s) (h : H p = some (.lst xs))
    (ho : s.heap.get? p = some { cls := .type "list", data := .seq its.toArray n }) (hf : f { cls := .type "list", data := .seq its.toArray n } = { cls := .type "list", data := .seq its'.toArray n' }) (r : Vals ys its') (hz : ys.length ≤ sizeLine) (t : Nat) :
    Inv X pins σ (upd H p (.lst ys)) { s with heap := s.heap.update p f, toks := t } := by
  have e : (s.heap.update p f).get? p = some { cls := .type "list", data := .seq its'.toArray n' } := by
    rw [Heap.get?_update_self f ho (by rw [hf] <;> rfl), hf]
  refine I.write (x := p) (e := p) (by rw [h]; trivial) (.inl rfl) (fun b u hb q => (Heap.get?_update_other _ _ (Ne.symm hb)).trans q) ⟨_, e⟩ ?_
  exact ⟨hz, its', n', r, e⟩
def rSetL : V → V → V → Hp → (Hp → Prop) → Prop := fun o i v H Q => ∃ p xs k j, o = .ref p ∧ i = .int k ∧ H p = some (.lst xs) ∧ ixN xs.length k = some j ∧ Q (upd H p (.lst (xs.set j v)))
theorem set_list : PSet X rSetL := by
  intro pins s σ H o i v ov iv u Q I ro ri rv h
  obtain ⟨p, xs, k, j, rfl, rfl, hp, hj, q⟩ := h
  cases ro
  obtain ⟨t, rfl⟩ := ri
  obtain ⟨its, n, r, ho, hz⟩ := I.lst hp
  obtain ⟨h1, h2, h3, h4⟩ := ixN_seq hj
  have hl := r.length
  have hn := line63
  have I' : Inv X pins σ (upd H p (.lst (xs.set j v))) { s with heap := s.heap.update p (Obj.mapSeq (·.setIfInBounds j u)) } :=
    I.lstUpd hp ho (mapSeq_set its n j u) (r.set rv j) (by rw [List.length_set]; exact hz) s.toks
  by_cases h0 : 0 ≤ k
  · have hk : k.toNat = j := by
      rw [seqIndex_of h0 h4] at h1
      exact Option.some.inj h1
    exact PySem.W.ki_setAt ho h0 (by omega) (by rw [List.size_toArray, ← hl]; exact h4) (by rw [hk]; exact ⟨_, I', q⟩)
  · have hk : (k + (its.toArray.size : Int)).toNat = j := by
      rw [seqIndex_neg (by omega) h3] at h1
      rw [List.size_toArray, ← hl]
      exact Option.some.inj h1
    exact PySem.W.ki_setBack ho (by omega) (by rw [List.size_toArray, ← hl]; exact h3) (by omega) (by rw [hk]; exact ⟨_, I', q⟩)
theorem slice_bounds (lo hi : Option Int) (n : Nat) : (sliceBounds lo hi none n).1 = ((HT.sIx n 0 lo : Nat) : Int) ∧ (sliceBounds lo hi none n).2.1 = ((HT.sIx n n hi : Nat) : Int) ∧ (sliceBounds lo hi none n).2.2 = 1 := by
  refine ⟨?_, ?_, rfl⟩
  · cases lo with
    | none => simp [sliceBounds, HT.sIx]
    | some i =>
      simp only [sliceBounds, HT.sIx, Option.getD_none, show (1 : Int) > 0 by decide, if_true]
      by_cases h : i < 0
      · simp only [h, if_true] <;> omega
      · simp only [h, if_false] <;> omega
  · cases hi with
    | none => simp [sliceBounds, HT.sIx]
    | some i =>
      simp only [sliceBounds, HT.sIx, Option.getD_none, show (1 : Int) > 0 by decide, if_true]
      by_cases h : i < 0
      · simp only [h, if_true] <;> omega
      · simp only [h, if_false] <;> omega
theorem slicePick_cut (its : List Value) (lo hi : Option Int) : slicePick its.toArray lo hi none = ((its.drop (HT.sIx its.length 0 lo)).take (HT.sIx its.length its.length hi - HT.sIx its.length 0 lo)).toArray := by
  obtain ⟨h1, h2, h3⟩ := slice_bounds lo hi its.toArray.size
  unfold slicePick
  rw [h1, h2, h3]
  simp only [sliceRange_one, pick_run, List.size_toArray] <;> rfl
def rSlL (K : PySem.W.Frag) : V → Option Int → Option Int → Hp → VK → Prop := fun x lo hi H Q => ∃ a xs, x = .ref a ∧ SqL K H a xs ∧ ∀ p, H p = none → Q (.ref p) (upd H p (.lst (cutV xs lo hi)))
theorem sl_list : SlR X (rSlL X.K) := by
  intro pins s σ H x v vl vu lo hi sl Q I rx hs pl pu h
  obtain ⟨a, xs, rfl, hx, q⟩ := h
  cases rx
  obtain ⟨its, r, ht, hz⟩ := I.list hx
  have hlen := r.length
  refine ⟨"list", _, slot_list_getitem.lookup, ht.isList.typeIs, ?_⟩
  refine wpAny_getItem_list_slice ht.isList hs pl pu .none (by simp) ?_ (by rw [List.size_toArray] <;> omega)
  rw [slicePick_cut, ← hlen]
  refine ⟨.ref s.heap.objs.size, _, I.laid (t' := s.toks) (o := .lst (cutV xs lo hi)) (fun b ob q => Heap.get?_push_of_some _ q) (Nat.le_refl _) ?_, rfl, q _ (I.hok.fresh (Nat.le_refl _))⟩
  exact ⟨Nat.le_trans (cutV_length xs lo hi) hz, _, 0, (r.drop (HT.sIx xs.length 0 lo)).take (HT.sIx xs.length xs.length hi - HT.sIx xs.length 0 lo), Heap.get?_push_size _ rfl⟩
def flatV : V → Bool
  | .non => true
  | .bl _ => true
  | .int _ => true
  | .str _ => true
  | _ => false
def eqV : V → V → Bool
  | .non, .non => true
  | .bl a, .bl b => a == b
  | .bl a, .int b => (if a then 1 else 0) == b
  | .int a, .bl b => a == (if b then 1 else 0)
  | .int a, .int b => a == b
  | .str a, .str b => a == b
  | _, _ => false
theorem eqAt_V {A : Around} {s : Shared} {y x : V} {u v : Value} (ry : RelV y u) (rx : RelV x v) (fy : flatV y = true) (fx : flatV x = true) : SeqAt.EqAt A s u v (eqV y x) := by
  cases y with
  | non =>
    cases ry
    cases x with
    | non => cases rx; exact SeqAt.EqAt.same _
    | bl b => cases rx; exact SeqAt.EqAt.none_bool b
    | int b => obtain ⟨t, rfl⟩ := rx; exact SeqAt.EqAt.none_int b t
    | str b => obtain ⟨t, rfl⟩ := rx; exact SeqAt.EqAt.none_str b t
    | _ => exact absurd (show false = true from fx) Bool.false_ne_true
  | bl a =>
    cases ry
    cases x with
    | non => cases rx; exact SeqAt.EqAt.bool_none a
    | bl b => cases rx; exact SeqAt.EqAt.bool_bool a b
    | int b => obtain ⟨t, rfl⟩ := rx; exact SeqAt.EqAt.bool_int a b t
    | str b => obtain ⟨t, rfl⟩ := rx; exact SeqAt.EqAt.bool_str a b t
    | _ => exact absurd (show false = true from fx) Bool.false_ne_true
  | int a =>
    obtain ⟨t', rfl⟩ := ry
    cases x with
    | non => cases rx; exact SeqAt.EqAt.int_none a t'
    | bl b => cases rx; exact SeqAt.EqAt.int_bool a t' b
    | int b => obtain ⟨t, rfl⟩ := rx; exact SeqAt.EqAt.int_int a t' b t
    | str b => obtain ⟨t, rfl⟩ := rx; exact SeqAt.EqAt.int_str a t' b t
    | _ => exact absurd (show false = true from fx) Bool.false_ne_true
  | str a =>
    obtain ⟨t', rfl⟩ := ry
    cases x with
    | non => cases rx; exact SeqAt.EqAt.str_none a t'
    | bl b => cases rx; exact SeqAt.EqAt.str_bool a t' b
    | int b => obtain ⟨t, rfl⟩ := rx; exact SeqAt.EqAt.str_int a t' b t
    | str b => obtain ⟨t, rfl⟩ := rx; exact SeqAt.EqAt.str_str a t' b t
    | _ => exact absurd (show false = true from fx) Bool.false_ne_true
  | _ => exact absurd (show false = true from fy) Bool.false_ne_true
def eqU (x : V) (u : Value) : Bool := match u with
  | .none => eqV .non x
  | .bool b => eqV (.bl b) x
  | .int i _ => eqV (.int i) x
  | .str z _ => eqV (.str z) x
  | _ => false
theorem eqU_of {x y : V} {u : Value} (r : RelV y u) (f : flatV y = true) : eqU x u = eqV y x := by
  cases y with
  | non => cases r; rfl
  | bl b => cases r; rfl
  | int i => obtain ⟨t, rfl⟩ := r; rfl
  | str z => obtain ⟨t, rfl⟩ := r; rfl
  | _ => exact absurd (show false = true from f) Bool.false_ne_true
theorem any_eqU {x : V} : ∀ {xs : List V} {us : List Value}, Vals xs us → xs.all flatV = true → us.any (eqU x) = xs.any fun y => eqV y x
  | _, _, .nil, _ => rfl
  | y :: xs, u :: us, .cons r t, f => by
    rw [List.all_cons, Bool.and_eq_true] at f
    rw [List.any_cons, List.any_cons, eqU_of r f.1, any_eqU t f.2]
theorem mem_eqAt {A : Around} {s : Shared} {x : V} {v : Value} (rx : RelV x v) (fx : flatV x = true) : ∀ {xs : List V} {us : List Value}, Vals xs us → xs.all flatV = true → ∀ u ∈ us, SeqAt.EqAt A s u v (eqU x u)
  | _, _, .nil, _ => fun u hu => by cases hu
  | y :: xs, u :: us, .cons r t, f => fun u' hu => by
    rw [List.all_cons, Bool.and_eq_true] at f
    rcases List.mem_cons.mp hu with rfl | hu
    · rw [eqU_of r f.1]; exact eqAt_V r rx f.1 fx
    · exact mem_eqAt rx fx t f.2 u' hu
def inV (x : V) (xs : List V) : Bool := xs.any fun y => eqV y x
def rIn (K : PySem.W.Frag) (neg : Bool) : R2 := fun x y H Q => ∃ p xs, y = .ref p ∧ (SqL K H p xs ∨ SqT K H p xs) ∧ flatV x = true ∧ xs.all flatV = true ∧ Q (.bl (if neg then !inV x xs else inV x xs)) H
theorem op_in_seq : OpR X (compareOp .In) (rIn X.K false) := by
  intro pins s σ H x y v u Q I rx ry h
  obtain ⟨p, xs, rfl, hq, fx, fs, q⟩ := h
  cases ry
  rcases hq with hq | hq
  · obtain ⟨its, r, pl, hz⟩ := I.list hq
    refine SeqAt.in_listAt (eqU x) pl.isList (fun w hw => mem_eqAt rx fx r fs w (by simpa using hw)) ⟨.bl _, H, I, rfl, ?_⟩
    rw [show its.toArray.any (eqU x) = its.any (eqU x) by simp, any_eqU r fs]
    exact q
  · obtain ⟨its, r, pl, hz⟩ := I.tuple hq
    refine SeqAt.in_tupleAt (eqU x) pl (fun w hw => mem_eqAt rx fx r fs w (by simpa using hw)) ⟨.bl _, H, I, rfl, ?_⟩
    rw [show its.toArray.any (eqU x) = its.any (eqU x) by simp, any_eqU r fs]
    exact q
theorem op_notIn_seq : OpR X (compareOp .NotIn) (rIn X.K true) := by
  intro pins s σ H x y v u Q I rx ry h
  obtain ⟨p, xs, rfl, hq, fx, fs, q⟩ := h
  cases ry
  rcases hq with hq | hq
  · obtain ⟨its, r, pl, hz⟩ := I.list hq
    refine SeqAt.notIn_listAt (eqU x) pl.isList (fun w hw => mem_eqAt rx fx r fs w (by simpa using hw)) ⟨.bl _, H, I, rfl, ?_⟩
    rw [show its.toArray.any (eqU x) = its.any (eqU x) by simp, any_eqU r fs]
    exact q
  · obtain ⟨its, r, pl, hz⟩ := I.tuple hq
    refine SeqAt.notIn_tupleAt (eqU x) pl (fun w hw => mem_eqAt rx fx r fs w (by simpa using hw)) ⟨.bl _, H, I, rfl, ?_⟩
    rw [show its.toArray.any (eqU x) = its.any (eqU x) by simp, any_eqU r fs]
    exact q
theorem call_len_seq : CallR X (.builtin "len") (fun xs H Q => ∃ p ys, xs = [.ref p] ∧ (SqL X.K H p ys ∨ SqT X.K H p ys) ∧ Q (.int ys.length) H) := by
  intro pins s σ H xs us Q I r h
  obtain ⟨p, ys, rfl, hq, q⟩ := h
  obtain ⟨u, rfl, rx⟩ := vals1 r
  cases rx
  have hn := line63
  rcases hq with hq | hq
  · obtain ⟨its, r', pl, hz⟩ := I.list hq
    have hlen := r'.length
    exact Calls.call_len_list pl.isList (by simp only [List.size_toArray] <;> omega) ⟨.int ys.length, H, I.tok _, ⟨s.toks + 1, by rw [List.size_toArray, hlen]⟩, q⟩
  · obtain ⟨its, r', pl, hz⟩ := I.tuple hq
    have hlen := r'.length
    exact len_tuple pl (by simp only [List.size_toArray] <;> omega) ⟨.int ys.length, H, I.tok _, ⟨s.toks + 1, by rw [List.size_toArray, hlen]⟩, q⟩
theorem call_len_str : CallR X (.builtin "len") (fun xs H Q => ∃ z, xs = [.str z] ∧ z.length ≤ sizeLine ∧ Q (.int z.length) H) := by
  intro pins s σ H xs us Q I r h
  obtain ⟨z, rfl, hz, q⟩ := h
  obtain ⟨u, rfl, t, rfl⟩ := vals1 r
  have hn := line63
  exact len_str (by omega) ⟨.int z.length, H, I.tok _, ⟨_, rfl⟩, q⟩
theorem call_tuple_of : CallR X (.type "tuple") (fun xs H Q => ∃ p ys, xs = [.ref p] ∧ ((SqL X.K H p ys ∧ ∀ l, H l = none → Q (.ref l) (upd H l (.tup ys))) ∨ (SqT X.K H p ys ∧ Q (.ref p) H))) := by
  intro pins s σ H xs us Q I r h
  obtain ⟨p, ys, rfl, h⟩ := h
  obtain ⟨u, rfl, rx⟩ := vals1 r
  cases rx
  rcases h with ⟨hq, q⟩ | ⟨hq, q⟩
  · obtain ⟨its, r', pl, hz⟩ := I.list hq
    have hlen := r'.length
    refine call_tuple_list pl.isList (fun h' kp => ?_) (by simp only [List.size_toArray] <;> omega)
    have I1 : Inv X pins σ H { s with heap := h' } := I.kept (t' := s.toks) kp
    have I2 : Inv X pins σ (upd H h'.objs.size (.tup ys)) { s with heap := h'.push { cls := .type "tuple", data := .seq its.toArray } } :=
      I1.laid (t' := s.toks) (fun b o e => Heap.get?_push_of_some _ e) (Nat.le_refl _) (show ObjOk X.prog X.w _ _ _ (.tup ys) from ⟨hz, its, r', TupX.new _ _⟩)
    exact ⟨.ref h'.objs.size, _, I2, rfl, q _ (I1.hok.fresh (Nat.le_refl _))⟩
  · obtain ⟨its, r', pl, hz⟩ := I.tuple hq
    exact call_tuple_same pl ⟨.ref p, H, I, rfl, q⟩
def tyV (K : PySem.W.Frag) (T : String) (x : V) (H : Hp) : Prop := match x with
  | .str _ => T = "str"
  | .int _ => T = "int"
  | .ref p => (T = "list" ∧ ∃ xs, SqL K H p xs) ∨ (T = "tuple" ∧ ∃ o, K.lookup p = some o ∧ o.cls = .type "tuple" ∧ o.dict = none) ∨
      (T = "dict" ∧ ((∃ kvs, H p = some (.dK kvs)) ∨ ∃ kvs, H p = some (.dT kvs))) ∨ (T = "set" ∧ ∃ S n, H p = some (.set S n))
  | _ => False
theorem tyV_is {pins : List (Addr × Obj)} {σ : St} {H : Hp} {s : Shared} {T : String} {x : V} {v : Value} (I : Inv X pins σ H s) (r : RelV x v) (ty : tyV X.K T x H) :
    s.TypeIs v T ∧ ∀ a, v = .ref a → ∃ ob, s.heap.get? a = some ob ∧ ob.dict = none := by
  cases x with
  | str z =>
    obtain ⟨t, rfl⟩ := r
    cases (show T = "str" from ty)
    exact ⟨typeIs_str s z t, fun _ e => nomatch e⟩
  | int i =>
    obtain ⟨t, rfl⟩ := r
    cases (show T = "int" from ty)
    exact ⟨typeIs_int s i t, fun _ e => nomatch e⟩
  | ref p =>
    cases r
    rcases ty with ⟨rfl, xs, hq⟩ | ⟨rfl, o, hk, hc, hd⟩ | ⟨rfl, hk⟩ | ⟨rfl, S, n, hk⟩
    · obtain ⟨its, _, pl, _⟩ := I.list hq
      refine ⟨pl.isList.typeIs, fun a e => ?_⟩
      cases e
      obtain ⟨o, n, e, c, hd, _⟩ := pl
      exact ⟨o, e, hd⟩
    · refine ⟨⟨o, I.kIn p o hk, hc⟩, fun a e => ?_⟩
      cases e
      exact ⟨o, I.kIn _ o hk, hd⟩
    · have z : ∃ o, s.heap.get? p = some o ∧ o.ExactDict := by
        rcases hk with ⟨kvs, hk⟩ | ⟨kvs, hk⟩
        · obtain ⟨_, _, _, _, o, _, _, e, ex, _⟩ := I.hok p _ hk
          exact ⟨o, e, ex⟩
        · obtain ⟨_, _, _, _, o, _, _, e, ex, _⟩ := I.hok p _ hk
          exact ⟨o, e, ex⟩
      obtain ⟨o, e, ex⟩ := z
      refine ⟨⟨o, e, ex.1⟩, fun a e2 => ?_⟩
      cases e2
      exact ⟨o, e, ex.2.1⟩
    · obtain ⟨o, _, _, _, e, ex, _⟩ := I.hok p _ hk
      refine ⟨⟨o, e, ex.1⟩, fun a e2 => ?_⟩
      cases e2
      exact ⟨o, e, ex.2.1⟩
  | _ => exact False.elim ty
def tBM (K : PySem.W.Frag) (T : String) (r : V → List V → Hp → VK → Prop) (to : TE) (t : TA) : TE := fun σ H Q => to σ H fun x H1 => tyV K T x H1 ∧ t σ H1 fun xs H2 => r x xs H2 Q
variable {o e : Expr} {es : List Expr} {to : TE} {t : TA} {name : Str} {apos cpos : Pos} {T id : String} {r : V → List V → Hp → VK → Prop}
theorem pe_bm (pa : PlainAttrs T) (slot : Slot T name id) (hty : typeOf (.builtin id) = pure (.type "method_descriptor")) (hm : MtR X id r) (ho : PE X o to) (ha : PA X (e :: es) t)
    (hbase : attributeBase o name X.env (eval o X.env) = eval o X.env := by rfl)
    (hfew : ((backTo cpos (starEach (e :: es) X.env)).all (fun x => !x.1) && (backToKw cpos (keywordEach [] X.env)).all (fun x => x.1.isSome)
      && decide ((e :: es).length + ([] : List Keyword).length + (if ([] : List Keyword).isEmpty then 0 else 1) < 30)) = true := by rfl)
    (hline : (apos.endLine == cpos.line) = true := by rfl) (hs : starEach (e :: es) X.env = (false, eval e X.env) :: starEach es X.env := by rfl) (hplain : (backTo cpos (starEach es X.env)).any (·.1) = false := by rfl) :
    PE X (.Call (.Attribute o name apos) (e :: es) [] cpos) (tBM X.K T r to t) := by
  intro pins s σ H Q I h
  refine wpAny_Call_method_late hbase hfew hline rfl (thn (ho pins s σ H _ I h) fun v s1 ⟨x, H1, I1, r1, ty, q1⟩ => ?_)
  obtain ⟨h1, h2⟩ := tyV_is I1 r1 ty
  refine ⟨T, id, pa, slot, hty, h1, h2, ?_⟩
  have hA := ha cpos pins s1 σ H1 _ I1 q1
  rw [hs] at hA ⊢
  refine Calls.callWith_builtin (by show (false || (backTo cpos (starEach es X.env)).any (·.1)) = false; rw [hplain] <;> rfl) (Calls.evalArgs_plain ?_)
  exact thn hA fun us s2 ⟨vs, H2, I2, r2, q2⟩ => hm pins s2 σ H2 x vs v us Q I2 r1 r2 q2
/- xs.append(e), list.index on a module's tuple .. are MtR facts of 06m -/
end
end L2

namespace L2
open PySem PySem.Spec PyProof.Rows

def MtM (X : Cx) (id : String) (r : V → List V → Hp → VK → Prop) : Prop :=
  ∀ (pins : List (Addr × Obj)) (s : Shared) (σ : St) (H : Hp) (x : V) (xs : List V) (v : Value) (us : List Value) (Q : VK), Inv X pins σ H s → RelV x v → Vals xs us → r x xs H Q →
    wpAny (model X.prog X.w) X.A (call (.builtin id) (v :: us)) (EP X pins σ Q) X.xe s
theorem Vals.one : ∀ {x : V} {us : List Value}, Vals [x] us → ∃ u, us = [u] ∧ RelV x u
  | _, _, .cons r .nil => ⟨_, rfl, r⟩
theorem Vals.two : ∀ {x y : V} {us : List Value}, Vals [x, y] us → ∃ u v, us = [u, v] ∧ RelV x u ∧ RelV y v
  | _, _, _, .cons r (.cons q .nil) => ⟨_, _, rfl, r, q⟩
theorem Vals.eraseIdx : ∀ {xs : List V} {us : List Value} (i : Nat), Vals xs us → Vals (xs.eraseIdx i) (us.eraseIdx i)
  | _, _, _, .nil => .nil
  | _, _, 0, .cons _ t => t
  | _, _, i + 1, .cons r t => .cons r (Vals.eraseIdx i t)
theorem Vals.rep {xs : List V} {us : List Value} (h : Vals xs us) : ∀ k : Nat, Vals (List.replicate k xs).flatten (List.replicate k us).flatten
  | 0 => .nil
  | k + 1 => by
    rw [List.replicate_succ, List.replicate_succ, List.flatten_cons, List.flatten_cons]
    exact Vals.append h (Vals.rep h k)
theorem len_erase {α : Type} : ∀ (l : List α) (i : Nat), (l.eraseIdx i).length ≤ l.length
  | [], _ => Nat.le_refl _
  | _ :: _, 0 => Nat.le_succ _
  | _ :: r, i + 1 => Nat.succ_le_succ (len_erase r i)
theorem foldl_rep (its : List Value) : ∀ (k : Nat) (acc : List Value),
    List.foldl (fun x1 x2 => x1 ++ x2) acc.toArray (List.replicate k its.toArray) = (acc ++ (List.replicate k its).flatten).toArray
  | 0, acc => by simp
  | k + 1, acc => by
    have e : acc.toArray ++ its.toArray = (acc ++ its).toArray := by simp
    have e2 : (acc ++ its) ++ (List.replicate k its).flatten = acc ++ (List.replicate (k + 1) its).flatten := by
      rw [List.replicate_succ, List.flatten_cons, List.append_assoc]
    rw [← e2, ← foldl_rep its k (acc ++ its), ← e, List.replicate_succ, List.foldl_cons]

section
variable {X : Cx} {pins : List (Addr × Obj)} {σ : St} {H : Hp} {s : Shared} {l b : Addr} {xs ys zs : List V}
theorem Inv.lset {its its' : List Value} {n : Nat} {f : Array Value → Array Value} {t' : Nat} (I : Inv X pins σ H s) (hH : H l = some (.lst xs))
    (e : s.heap.get? l = some { cls := .type "list", data := .seq its.toArray n }) (hf : f its.toArray = its'.toArray) (hv : Vals ys its') (hz : ys.length ≤ sizeLine) :
    Inv X pins σ (upd H l (.lst ys)) { s with heap := s.heap.update l (Obj.mapSeq f), toks := t' } := by
  have q := PySem.IsL.update e f
  rw [hf] at q
  refine I.write (x := l) (e := l) (by rw [hH]; exact trivial) (.inl rfl) (fun b' u hb hu => (Heap.get?_update_other s.heap (Obj.mapSeq f) (Ne.symm hb)).trans hu) ⟨_, q⟩ ?_
  exact ⟨hz, its', _, hv, q⟩
theorem Inv.lnew {its : List Value} {t' : Nat} (I : Inv X pins σ H s) (hv : Vals ys its) (hz : ys.length ≤ sizeLine) :
    Inv X pins σ (upd H s.heap.objs.size (.lst ys)) { s with heap := s.heap.push { cls := .type "list", data := .seq its.toArray }, toks := t' } :=
  I.laid (fun _ _ q => Heap.get?_push_of_some _ q) (Nat.le_refl _) ⟨hz, its, 0, hv, Heap.get?_push_size _ rfl⟩
theorem Inv.fresh (I : Inv X pins σ H s) : H s.heap.objs.size = none := I.hok.fresh (Nat.le_refl _)
theorem Inv.lstM (I : Inv X pins σ H s) (hH : H l = some (.lst xs)) : xs.length ≤ sizeLine ∧ ∃ (its : List Value) (n : Nat), Vals xs its ∧ xs.length = its.length ∧ s.heap.get? l = some { cls := .type "list", data := .seq its.toArray n } := by
  obtain ⟨z, its, n, r, e⟩ := I.hok l _ hH
  exact ⟨z, its, n, r, r.length, e⟩

theorem notLongL {n : Nat} (h : n ≤ sizeLine) : Builtin.List.listTooLong n = false := by
  unfold Builtin.List.listTooLong
  exact decide_eq_false (by omega)
end

section
variable {X : Cx}
def rAppend : V → List V → Hp → VK → Prop := fun x vs H Q => ∃ l xs y, x = .ref l ∧ vs = [y] ∧ H l = some (.lst xs) ∧ xs.length < sizeLine ∧ Q .non (upd H l (.lst (xs ++ [y])))
theorem mt_append : MtM X "list.append" rAppend := by
  intro pins s σ H x vs v us Q I rx rv h
  obtain ⟨l, xs, y, rfl, rfl, hH, hz, q⟩ := h
  cases rx
  obtain ⟨u, rfl, ru⟩ := rv.one
  obtain ⟨z, its, n, r, hl, e⟩ := I.lstM hH
  refine call_meets F.slot_list_append ⟨_, e, rfl⟩ F.entry_list_append (F.args_list_append_2 _ _) (PySem.list_append l its.toArray n u (by rw [List.size_toArray]; omega)) ⟨e, ?_⟩
  refine ⟨.non, _, I.lset (its' := its ++ [u]) hH e (by simp) (r.append (.cons ru .nil)) ?_, rfl, q⟩
  rw [List.length_append, List.length_singleton]
  omega

def rPopAt : V → List V → Hp → VK → Prop := fun x vs H Q => ∃ l xs i k y, x = .ref l ∧ vs = [.int i] ∧ H l = some (.lst xs) ∧ -(2 ^ 63) ≤ i ∧ i < 2 ^ 63 ∧ seqIndex? i xs.length = some k ∧ xs[k]? = some y ∧ Q y (upd H l (.lst (xs.eraseIdx k)))
theorem mt_popAt : MtM X "list.pop" rPopAt := by
  intro pins s σ H x vs v us Q I rx rv h
  obtain ⟨l, xs, i, k, y, rfl, rfl, hH, h1, h2, hk, hy, q⟩ := h
  cases rx
  obtain ⟨u, rfl, ru⟩ := rv.one
  obtain ⟨t, rfl⟩ := ru
  obtain ⟨z, its, n, r, hl, e⟩ := I.lstM hH
  obtain ⟨w, hw, rw'⟩ := r.get hy
  refine call_meets F.slot_list_pop ⟨_, e, rfl⟩ F.entry_list_pop (F.args_list_pop_2 _ _)
    (MeetsSeq.list_pop_at l its.toArray n i t k w (fitsIndex_both h1 h2) (by rw [List.size_toArray, ← hl]; exact hk) (by rw [← Array.getElem?_toList]; exact hw) (by rw [List.size_toArray]; omega)) ⟨e, ?_⟩
  refine ⟨y, _, I.lset (its' := its.eraseIdx k) hH e ?_ (r.eraseIdx k) ?_, rw', q⟩
  · show its.toArray.eraseIdxIfInBounds k = (its.eraseIdx k).toArray
    rw [List.eraseIdxIfInBounds_toArray]
  · have := len_erase xs k
    omega
def rCat : R2 := fun x y H Q => ∃ l b xs zs, x = .ref l ∧ y = .ref b ∧ H l = some (.lst xs) ∧ H b = some (.lst zs) ∧ xs.length + zs.length ≤ sizeLine ∧ ∀ p, H p = none → Q (.ref p) (upd H p (.lst (xs ++ zs)))
theorem op_cat : OpR X (binaryOp .Add) rCat := by
  intro pins s σ H x y v u Q I rx ry h
  obtain ⟨l, b, xs, zs, rfl, rfl, hH, hB, hz, q⟩ := h
  cases rx
  cases ry
  obtain ⟨z, its, n, r, hl, e⟩ := I.lstM hH
  obtain ⟨z2, its2, n2, r2, hl2, e2⟩ := I.lstM hB
  refine PySem.P.add_list e e2 ?_ (by rw [List.size_toArray, List.size_toArray]; omega)
  have ea : its.toArray ++ its2.toArray = (its ++ its2).toArray := by simp
  rw [ea]
  exact ⟨.ref _, _, I.lnew (t' := s.toks) (r.append r2) (by rw [List.length_append]; omega), rfl, q _ I.fresh⟩
def rRep : R2 := fun x y H Q => ∃ l k xs, x = .ref l ∧ y = .int k ∧ H l = some (.lst xs) ∧ -(2 ^ 63) ≤ k ∧ k < 2 ^ 63 ∧ xs.length * k.toNat ≤ sizeLine ∧
  ∀ p, H p = none → Q (.ref p) (upd H p (.lst (List.replicate k.toNat xs).flatten))
theorem len_rep {α : Type} (xs : List α) (k : Nat) : (List.replicate k xs).flatten.length = k * xs.length := by
  induction k with
  | zero => simp
  | succ k ih => rw [List.replicate_succ, List.flatten_cons, List.length_append, ih, Nat.succ_mul, Nat.add_comm]
theorem op_rep : OpR X (binaryOp .Mult) rRep := by
  intro pins s σ H x y v u Q I rx ry h
  obtain ⟨l, k, xs, rfl, rfl, hH, h1, h2, hz, q⟩ := h
  cases rx
  obtain ⟨t, rfl⟩ := ry
  obtain ⟨z, its, n, r, hl, e⟩ := I.lstM hH
  have hlen : its.toArray.size * k.toNat ≤ sizeLine := by rw [List.size_toArray, ← hl]; exact hz
  have hcap : ¬ its.toArray.size * k.toNat > (2 ^ 63 - 1) / 8 := by
    have : (sizeLine : Nat) ≤ (2 ^ 63 - 1) / 8 := by decide
    omega
  have hfit : ¬ (!Builtin.List.listFitsIndex k) = true := by
    rw [fitsIndex_both h1 h2]
    exact Bool.false_ne_true
  have hlong : ¬ Builtin.List.listTooLong (its.toArray.size * k.toNat) = true := by
    rw [notLongL hlen]
    exact Bool.false_ne_true
  have hnew : List.foldl (fun x1 x2 => x1 ++ x2) #[] (List.replicate (if its.toArray.isEmpty = true then 0 else k.toNat) its.toArray) = (List.replicate k.toNat its).flatten.toArray := by
    have f0 : ∀ m : Nat, List.foldl (fun x1 x2 => x1 ++ x2) #[] (List.replicate m its.toArray) = (List.replicate m its).flatten.toArray := fun m => by
      have := foldl_rep its m []
      rw [List.nil_append] at this
      exact this
    rw [f0]
    cases its with
    | nil => simp
    | cons a r' => rw [if_neg (by simp)]
  refine wpAny_binaryOp_repeat_ref (T := "list") (U := "int") (by decide) ⟨_, e, rfl⟩ (fun s' => typeIs_int s' k t) noFill_list_mul F.fills_int_mul F.slot_int_rmul repeat_list F.slot_int_index.lookup
    (call_meets F.slot_int_rmul (typeIs_int s k t) F.entry_int_rmul (F.args_int_rmul_2 _ _) (int___rmul___int_list k t l its.toArray n)
      ⟨e, rfl, ⟨_, e, rfl⟩, call_meets F.slot_list_mul ⟨_, e, rfl⟩ F.entry_list_mul (F.args_list_mul_2 _ _) (AutoListH.list___mul___list_int_3 l its.toArray n k t hfit hcap hlong) ⟨e, ?_⟩⟩)
  rw [hnew]
  exact ⟨.ref _, _, I.lnew (t' := s.toks) (r.rep k.toNat) (by rw [len_rep, Nat.mul_comm]; exact hz), rfl, q _ I.fresh⟩
end
section
variable {prog : Program} {w : World} {A : Around} {E : Value → Shared → Prop} {s : Shared}
end

section
variable {X : Cx}
end
end L2

namespace Att
open PySem PySem.W PySem.Calls PyProof.Rows
theorem ints_of_wellAll {P : Params} {h : Heap} : ∀ (ns : List Int) (vs : List Value), WellAll P h vs (ns.map WData.int) → IntsAre vs ns := by
  intro ns
  induction ns with
  | nil =>
    intro vs w
    rw [List.map_nil] at w
    cases w
    exact .nil
  | cons n ns ih =>
    intro vs w
    rw [List.map_cons] at w
    cases w with
    | cons a b =>
      cases a
      exact .cons _ _ (ih _ b)

theorem script_of {l : OpenLaw} {n : Nat} (hn : l.most = some n) {P : Params} {h : Heap} {args : List WData} {vals : List Value}
    (hpre : l.row.toRowW.claim.pre args = true) (hwl : WellAll P h vals args) :
    ∃ a vs ns, vals = [Value.ref a] ∧ args = [WData.list (ns.map WData.int)] ∧ h.get? a = some { cls := .type "list", data := .seq vs.toArray } ∧ IntsAre vs ns ∧ ns.length ≤ n := by
  have hsh : WShape.hasAll [] args [.list .int] = true := (pre_splitW hpre).1
  have hc : l.pre.holds [] { args := args } = true := (pre_splitW hpre).2
  obtain ⟨d, r, rfl, h1, h2⟩ := hasAllW_cons hsh
  obtain rfl := hasAllW_nil h2
  obtain ⟨xs, rfl, h3⟩ := hasW_list h1
  obtain ⟨ns, rfl⟩ := items_int h3
  have hlen : ns.length ≤ n := by
    unfold OpenLaw.pre at hc
    have h4 : (WTm.not (.lt (.lit (.int (n : Int))) (.len (.arg 0)))).holds [] { args := [.list (ns.map .int)] } = true := by
      have h4 := (holds_andW hc).1
      rw [hn] at h4
      exact h4
    have h5 := condW_of h4 (w_not (w_lt w_lit (w_len_list (w_arg rfl))))
    rw [List.length_map] at h5
    refine Nat.le_of_not_lt fun q => ?_
    have q' : (n : Int) < ((ns.length : Nat) : Int) := by omega
    first
      | (rw [decide_eq_true q'] at h5; exact absurd h5 (by decide))
      | (simp at h5; omega)
  cases hwl with
  | cons w1 w2 =>
    cases w2
    cases w1 with
    | list ho hall => exact ⟨_, _, ns, rfl, rfl, ho, ints_of_wellAll ns _ hall, hlen⟩

theorem post_true (l : OpenLaw) (args : List WData) : l.row.toRowW.claim.post args (.bool true) args = true :=
  postW_of (r := l.row.toRowW) (X := (true == true))
    (show WShape.has [] (.bool true) .bool = true by first | rfl | decide | simp [WShape.has, WShape.arms, WShape.armsAll])
    (show (WTm.eq .res (.lit (.bool true))).value [] { args := args, res := some (.bool true), after := args } = some (.bool (true == true)) from w_eq_bool (w_res rfl) w_lit) rfl
theorem attach_call {l : OpenLaw} {n : Nat} {q : Program} {loose : List Str} {XP : (Str → Option Value) → Heap → Prop} {YP : World → Heap → Prop} {d : DefRec}
    (hn : l.most = some n) (hdf : d.params.defaults = [])
    (call : ∀ (w : World) (s₀ s₁ : Shared) (mg mb : Str → Option Value) (fa : Addr) (o : Obj) (pm cd doc : Value) (a : Addr) (vs : List Value) (ns : List Int),
      Ground q loose [] XP w s₀ mg mb s₁.heap → YP w s₁.heap →
      s₁.heap.get? fa = some o → o.data = .func (docDef d.name d.params d.body d.scope pm cd doc) → s₁.heap.CodeRec cd d.name → mg d.name = some (.ref fa) →
      s₁.heap.get? a = some { cls := .type "list", data := .seq vs.toArray } → IntsAre vs ns → ns.length ≤ n → s₁.gens = #[] →
      codeAny (model l.prog w) callerA (.call (.ref fa) ⟨[.ref a], []⟩) (fun r s' => r = .ok (.ret (.bool true)) ∧ OldK s₁.heap s'.heap ∧ s'.os = s₁.os ∧ AllBare s'.gens) s₁) :
    WalkO q loose XP YP l.row.toRowW d [] (fun f vs => PySem.call f vs) := by
  intro w s₀ s₁ mg mb G Y fa o pm cd doc dV kV ho hd hcd hD hmg hg args vals as hpre hlay hrd hwl hlo
  obtain rfl : dV = .none := Dflts.none hD hdf
  obtain rfl : kV = .none := Dflts.noKw hD
  obtain ⟨a, vs, ns, rfl, rfl, hobj, hints, hlen⟩ := script_of hn hpre hwl
  refine enter_call (codeAny_mono (call w s₀ s₁ mg mb fa o pm cd doc a vs ns G Y ho (fd_plain hd) hcd hmg hobj hints hlen hg) fun r s' hq => ?_)
  obtain ⟨rfl, h2, h3, h4⟩ := hq
  exact ⟨.inl ⟨.bool true, .bool true, [], rfl, fun _ => rfl, .bool true, post_true l _, fun _ => ⟨List.Pairwise.nil, fun _ hm => (nomatch hm)⟩⟩, h2, h3, h4⟩
section
variable {prog : Program} {w : World} {A : Around} {E : Value → Shared → Prop} {s : Shared} {K : Frag}
def ledger (h : Heap) (L d : Addr) : List (Addr × Obj) := (List.range h.objs.size).filterMap fun a => if a = L ∨ a = d then none else (h.get? a).map fun o => (a, o)
end
end Att

namespace L2
open PySem PySem.Spec PyProof.Rows

theorem vals_ints : ∀ {vs : List Value} {ns : List Int}, IntsAre vs ns → Vals (ns.map V.int) vs
  | _, _, .nil => .nil
  | _, _, .cons n t h => .cons ⟨t, rfl⟩ (vals_ints h)
def Only (H : Hp) : Prop := ∀ b, H b = none ∨ ∃ o xs, H b = some (.frz o (.lst xs))
theorem law_call {P : Program} {w : World} {K : PySem.W.Frag} {mg mb : Str → Option Value} {CX : CXT} {k : Nat} {fa a : Addr} {fd : FuncData} {x : Str} {sp : Sp} {s₁ : Shared} {vs : List Value} {ns : List Int}
    (KX : K.In s₁.heap) (hns : s₁.heap.Ns mainGlobals mg) (hb : s₁.heap.Ns builtinsNs mb) (hbb : ∀ x : Str, x ≠ "__name__" → mb x = bootBuiltins x) (hlim : s₁.heap.NoLimit) (hg : s₁.gens = #[])
    (ha : s₁.heap.get? a = some { cls := .type "list", data := .seq vs.toArray }) (hi : IntsAre vs ns) (hl : ns.length ≤ sizeLine) (hr : Room k callerA)
    (F : ∀ base : Heap, K.In base → base.Ns mainGlobals mg → FnOk P w K mg base CX k fa fd [x] sp) (hbind : ∀ (s : Shared) (u : Value), BindsTo s fd ⟨[u], []⟩ [(x, u)])
    (hsp : ∀ H : Hp, Only H → SqL K H a (ns.map V.int) → sp [.ref a] H (fun v _ => v = .bl true) fun _ _ _ => False)
    (hCX : ∀ H e s', CX [] H s₁ (fun _ _ _ => False) e s' → False) :
    codeAny (model P w) callerA (.call (.ref fa) ⟨[.ref a], []⟩) (fun r s' => r = .ok (.ret (.bool true)) ∧ OldK s₁.heap s'.heap ∧ s'.os = s₁.os ∧ AllBare s'.gens) s₁ := by
  have rv := vals_ints hi
  have lenV := hi.length
  have core : ∀ H : Hp, Only H → SqL K H a (ns.map V.int) → HOk P w H s₁.heap → (∀ b, H b ≠ none → b = a) → (H a ≠ none → K.lookup a = none) →
      codeAny (model P w) callerA (.call (.ref fa) ⟨[.ref a], []⟩) (fun r s' => r = .ok (.ret (.bool true)) ∧ OldK s₁.heap s'.heap ∧ s'.os = s₁.os ∧ AllBare s'.gens) s₁ := by
    intro H hO hS hok hA hK
    have base_of : ∀ {b : Addr} {o : Obj}, s₁.heap.get? b = some o → H b = none → (hidT s₁.heap H).get? b = some o := fun e n => hidT_get e n
    have noA : ∀ {b : Addr} {o : Obj} {es : Array DictEntry} {ep : Nat}, s₁.heap.get? b = some o → o.data = .dict es ep → H b = none := fun {b o es ep} e d => by
      cases q : H b with
      | none => rfl
      | some u =>
        have e' : b = a := hA b (by rw [q]; simp)
        subst e'
        rw [ha] at e; cases e
        have d' : Data.seq vs.toArray _ = Data.dict es ep := d
        cases d'
    have nsK : ∀ {b : Addr} {m : Str → Option Value}, s₁.heap.Ns b m → (hidT s₁.heap H).Ns b m := fun {b m} ⟨o, es, ep, e, d, r⟩ => ⟨o, es, ep, base_of e (noA e d), d, r⟩
    have hKb : K.In (hidT s₁.heap H) := fun b o e => base_of (KX b o e) (by
      cases q : H b with
      | none => rfl
      | some u =>
        have e' : b = a := hA b (by rw [q]; simp)
        subst e'
        rw [hK (by rw [q]; simp)] at e; cases e)
    have hM : Mod K mg (hidT s₁.heap H) := ⟨hKb, nsK hns, ⟨mb, nsK hb, hbb⟩, let ⟨mc, h1, h2⟩ := hlim; ⟨mc, nsK h1, h2⟩⟩
    have e0 : Env0 P w K mg (hidT s₁.heap H) callerA [] s₁ H := ⟨rfl, hM, fun b o e => of_hidT e, Nat.le_of_eq (hidT_size _ _), trivial, fun b hb => absurd (show b ∈ ([] : List Addr) from hb) (by simp), hok, .of_eq hg⟩
    refine codeAny_mono ((F _ hKb (nsK hns)).run callerA [] s₁ H ⟨[.ref a], []⟩ [.ref a] [.ref a] _ _ hr e0 (hbind s₁ (.ref a)) (.cons rfl .nil) (hsp H hO hS)) fun r s' h => ?_
    cases r with
    | error e => exact (hCX H e s' h).elim
    | ok fl =>
      cases fl with
      | next => exact False.elim h
      | brk => exact False.elim h
      | cont => exact False.elim h
      | ret u =>
        obtain ⟨v, H', os, bare, un, hok', r', q⟩ := h
        have q' : v = .bl true := q
        subst q'
        obtain rfl : u = Value.bool true := r'
        refine ⟨rfl, OldK.of_keep fun b o e => ?_, os, bare⟩
        cases q : H b with
        | none => exact un.keep b o e q (by intro z; exact absurd (show b ∈ ([] : List Addr) from z) (by simp)) (by simp)
        | some u =>
          rcases hO b with z | ⟨ob, xs, z⟩
          · rw [q] at z; cases z
          · have z2 := un.frzs b ob _ z
            obtain ⟨e1, _⟩ := hok b _ z
            obtain ⟨e2, _⟩ := hok' b _ z2
            rw [e] at e1; cases e1
            exact e2
  cases hk : K.lookup a with
  | some o =>
    have e := KX a o hk
    rw [ha] at e
    cases e
    refine core (fun _ => none) (fun _ => .inl rfl) (.inr ⟨_, vs.toArray, _, hk, rfl, rfl, rfl, by rw [List.size_toArray, lenV]; exact hl, by simpa using rv⟩) (fun b u z => by have z' : (none : Option HO) = some u := z; cases z') (fun b z => absurd rfl z) fun z => absurd rfl z
  | none =>
    refine core (fun b => if b = a then some (.frz { cls := .type "list", data := .seq vs.toArray } (.lst (ns.map V.int))) else none) (fun b => ?_) (.inl (.inr ⟨{ cls := .type "list", data := .seq vs.toArray }, if_pos rfl⟩)) (fun b u z => ?_) (fun b z => ?_) fun _ => hk
    · by_cases hb : b = a
      · exact .inr ⟨_, _, if_pos hb⟩
      · exact .inl (if_neg hb)
    · by_cases hb : b = a
      · have z' := (if_pos hb).symm.trans z
        cases z'
        subst hb
        exact ⟨ha, by rw [List.length_map]; exact hl, vs, _, rv, ha⟩
      · have z' := (if_neg hb).symm.trans z
        cases z'
    · by_cases hb : b = a
      · exact hb
      · exact absurd (if_neg hb) z
end L2

namespace L2
open PySem PySem.Spec PyProof.Rows

abbrev KOf {K : PySem.W.Frag} {h : Heap} (_ : K.In h) : PySem.W.Frag := K
theorem walk_of {l : PySem.W.OpenLaw} {n k : Nat} {q : Program} {loose : List Str} {XP : (Str → Option Value) → Heap → Prop} {YP : World → Heap → Prop} {d : DefRec} {K : Params → PySem.W.Frag} {CX : World → CXT} {sp : World → Sp} {x : Str}
    (hn : l.most = some n) (hn2 : n ≤ sizeLine) (hdf : d.params.defaults = []) (hr : Room k callerA)
    (hY : ∀ (w : World) (h : Heap), YP w h → (K w.params).In h)
    (F : ∀ (w : World) (mg : Str → Option Value) (fa : Addr) (h : Heap), (K w.params).In h → h.Ns mainGlobals mg → mg d.name = some (.ref fa) →
      ∃ fd : FuncData, (∀ (s : Shared) (u : Value), BindsTo s fd ⟨[u], []⟩ [(x, u)]) ∧
        ∀ base : Heap, (K w.params).In base → base.Ns mainGlobals mg → FnOk l.prog w (K w.params) mg base (CX w) k fa fd [x] (sp w))
    (hsp : ∀ (w : World) (H : Hp) (a : Addr) (ns : List Int), ns.length ≤ n → Only H → SqL (K w.params) H a (ns.map V.int) → sp w [.ref a] H (fun v _ => v = .bl true) fun _ _ _ => False)
    (hCX : ∀ (w : World) (H : Hp) (s : Shared) (e : Value) (s' : Shared), CX w [] H s (fun _ _ _ => False) e s' → False) :
    PySem.W.WalkO q loose XP YP l.row.toRowW d [] (fun f vs => PySem.call f vs) := by
  refine Att.attach_call hn hdf fun w s₀ s₁ mg mb fa o pm cd doc a vs ns G Y ho hd hcd hmg hobj hints hlen hg => ?_
  have KX := hY w _ Y
  obtain ⟨fd, hb, hF⟩ := F w mg fa _ KX G.T.g hmg
  exact law_call KX G.T.g G.T.b G.T.builtins G.T.nolimit hg hobj hints (Nat.le_trans hlen hn2) hr hF hb (fun H hO hS => hsp w H a ns hlen hO hS) fun H e s' => hCX w H s₁ e s'
theorem walk_ofK {l : PySem.W.OpenLaw} {n k : Nat} {q : Program} {loose : List Str} {XP : (Str → Option Value) → Heap → Prop} {YP : World → Heap → Prop} {d : DefRec} {K : Params → PySem.W.Frag} {CX : CXT} {sp : PySem.W.Frag → Sp} {x : Str}
    (hn : l.most = some n) (hn2 : n ≤ sizeLine) (hdf : d.params.defaults = []) (hr : Room k callerA)
    (hY : ∀ (w : World) (h : Heap), YP w h → (K w.params).In h)
    (F : ∀ (w : World) (mg : Str → Option Value) (fa : Addr) (h : Heap), (K w.params).In h → h.Ns mainGlobals mg → mg d.name = some (.ref fa) →
      ∃ fd : FuncData, (∀ (s : Shared) (u : Value), BindsTo s fd ⟨[u], []⟩ [(x, u)]) ∧
        ∀ base : Heap, (K w.params).In base → base.Ns mainGlobals mg → FnOk l.prog w (K w.params) mg base CX k fa fd [x] (sp (K w.params)))
    (hsp : ∀ (K : PySem.W.Frag) (H : Hp) (a : Addr) (ns : List Int), ns.length ≤ n → Only H → SqL K H a (ns.map V.int) → sp K [.ref a] H (fun v _ => v = .bl true) fun _ _ _ => False)
    (hCX : ∀ (H : Hp) (s : Shared) (e : Value) (s' : Shared), CX [] H s (fun _ _ _ => False) e s' → False) :
    PySem.W.WalkO q loose XP YP l.row.toRowW d [] (fun f vs => PySem.call f vs) :=
  walk_of (K := K) (CX := fun _ => CX) (sp := fun w => sp (K w.params)) hn hn2 hdf hr hY F (fun w H a ns h1 h2 h3 => hsp (K w.params) H a ns h1 h2 h3) fun _ H s e s' => hCX H s e s'
end L2

/- THE LAST THEOREM (shape; LID, My.* are yours):
   My.Adr: a structure of the addresses that your layer names (classes, functions); My.Txt K t: a structure (Prop) of the equations over K;
   My.txt_mk : {K} {implicit addresses ..} (e1 : nsIn K mainGlobals "law" = some (some (.ref f))) (e2 : K.lookup f = some ⟨oc, od, .func (fnOf "law" "law" params body scope dV kV doc pm an cdv ct), sl⟩) (e3 : codeIn K cdv "law" = true) .. : ∃ t, My.Txt K t

set_option maxRecDepth 100000 in
set_option maxHeartbeats 0 in
theorem PySem.Challenge.cw_LID_holds : PySem.Challenge.rw_LID.Holds := by
  w_on; o_law; k_head; (case hw => w_witness2)
  k_fill
  refine L2.walk_of (l := PySem.Challenge.rw_LID) (n := 63) (k := 40) (x := "script") (CX := fun w => ..) (sp := fun _ => My.sp_law) rfl (by decide) rfl ⟨rfl, by decide, by decide⟩ (fun w h Y => PySem.W.kIn_of Y) ?F ?S ?C
  case F =>
    intro w mg fa h KX G hmg
    have T : ∃ t, My.Txt (L2.KOf KX) t := by
      dsimp only [L2.KOf]                          -- K must stand as «<heap const> w.params» for k_is
      refine' My.txt_mk ?e1 ?e2 ?e3 ..
      (case e1 => PySem.W.k_is)                    -- in the order: a name -> its address -> its object -> its parts
      (case e2 => PySem.W.k_is)
      ..
    obtain ⟨t, T⟩ := T
    have e0 := hmg.symm.trans (PySem.W.mg_of KX G T.law)
    cases e0                                       -- fa is the law's own address
    exact ⟨_, fun s u => .of_eq rfl, fun base kb nb => My.law_fn T kb nb⟩     -- if «.of_eq rfl» comes too early: refine' ⟨_, ?b, fun base kb nb => My.law_fn T kb nb⟩; exact fun s u => .of_eq rfl
  case S => exact fun w H a ns hl hO hS => ..
  case C => exact ..
(the tactic k_is has no namespace: write k_is) -/
namespace L2
open PySem PySem.Spec PyProof.Rows
def inClass (s : Stmt) (j : Nat) : Stmt := match s with
  | .ClassDef _ _ _ body _ _ _ _ _ _ _ => body.getD j (.Pass ⟨0, 0, 0, 0⟩)
  | _ => .Pass ⟨0, 0, 0, 0⟩
def defArgs (s : Stmt) : Arguments := match s with
  | .FunctionDef _ a _ _ _ _ _ _ _ _ => a
  | _ => { posonlyargs := [], args := [], vararg := none, kwonlyargs := [], kw_defaults := [], kwarg := none, defaults := [] }
def defBody (s : Stmt) : List Stmt := match s with
  | .FunctionDef _ _ b _ _ _ _ _ _ _ => b
  | _ => []
def defScope (s : Stmt) : Scope := match s with
  | .FunctionDef _ _ _ _ _ _ sc _ _ _ => sc
  | _ => { kind := .function, names := [], isGenerator := false, isCoroutine := false }
abbrev CX0 : CXT := fun _ _ _ _ _ _ => False
abbrev E0 : XK := fun _ _ _ => False
theorem pass0 {X : Cx} : Passes CX0 X E0 := fun _ _ _ _ _ _ _ h => h.elim
structure Fun (K : PySem.W.Frag) (x qual : Str) (st : Stmt) (f : Addr) (fd : FuncData) : Prop where
  ex : ∃ (oc : Value) (od : Option Addr) (kV doc pm : Value) (an : Option Addr) (cdv ct : Value) (osl : Array (Option Value)),
    fd = PySem.W.fnOf x qual (defArgs st) (defBody st) (defScope st) .none kV doc pm an cdv ct ∧ K.lookup f = some ⟨oc, od, .func fd, osl⟩ ∧ PySem.W.codeIn K cdv qual = true
  kp : PySem.W.keepIn K (.ref f) = true
section
variable {P : Program} {w : World} {K : PySem.W.Frag} {mg : Str → Option Value} {base : Heap}
theorem Fun.ok {x qual : Str} {st : Stmt} {f : Addr} {fd : FuncData} {N ps : List Str} {k : Nat} {sp : Sp} (F : Fun K x qual st f fd) (S : FnScope N ps (defScope st)) (len : ∀ vs H Q E, sp vs H Q E → vs.length = ps.length)
    (hbody : ∀ (cdv : Value) (A : Around) (outer : List Env) (s : Shared) (H : Hp) (vs : List V) (Q : VK) (E : XK), Room k (A.deeper (envOfC qual (defScope st) s.heap.objs.size f cdv)) → sp vs H Q E →
      ∃ t, PSs (cxOf CX0 P w K mg base N qual (defScope st) f cdv A outer s H E).nox (defBody st) t ∧ t { nx := fun _ H' => Q .non H', rt := Q } (start N vs) H) : FnOk P w K mg base CX0 (k + 1) f fd ps sp := by
  obtain ⟨oc, od, kV, doc, pm, an, cdv, ct, osl, rfl, lk, hcd⟩ := F.ex
  refine fn_of lk hcd S len fun A outer s H vs Q E hr hsp => ?_
  obtain ⟨t, h, q⟩ := hbody cdv A outer s H vs Q E hr hsp
  exact ⟨t, h.nox, q⟩
theorem Fun.binds {x qual : Str} {st : Stmt} {f : Addr} {fd : FuncData} {ps : List Str} (F : Fun K x qual st f fd)
    (h : ∀ (kV doc pm : Value) (an : Option Addr) (cdv ct : Value) (us : List Value), us.length = ps.length → bindArgs (PySem.W.fnOf x qual (defArgs st) (defBody st) (defScope st) .none kV doc pm an cdv ct) ⟨us, []⟩ = pure (ps.zip us)) : Binds K fd ps [] := by
  obtain ⟨oc, od, kV, doc, pm, an, cdv, ct, osl, rfl, lk, hcd⟩ := F.ex
  exact .all (h kV doc pm an cdv ct)
theorem fun_mk {x qual : Str} {st : Stmt} {f : Addr} {oc : Value} {od an : Option Addr} {osl : Array (Option Value)} {kV doc pm cdv ct : Value} (l : K.lookup f = some ⟨oc, od, .func (PySem.W.fnOf x qual (defArgs st) (defBody st) (defScope st) .none kV doc pm an cdv ct), osl⟩)
    (c : PySem.W.codeIn K cdv qual = true) (k : PySem.W.keepIn K (.ref f) = true) : Fun K x qual st f (PySem.W.fnOf x qual (defArgs st) (defBody st) (defScope st) .none kV doc pm an cdv ct) := ⟨⟨oc, od, kV, doc, pm, an, cdv, ct, osl, rfl, l, c⟩, k⟩
end
theorem small1000 {n : Nat} (h : n ≤ 1000) : n < sizeLine := Nat.lt_of_le_of_lt h (by decide)
section
variable {X : Cx}
theorem pv (i : Nat) {x : Str} {pos : Pos} (hN : X.N[i]? = some x := by rfl) (hv : Vis X.env.scope x := by first | exact Or.inl rfl | exact Or.inr (Or.inl rfl) | exact Or.inr (Or.inr rfl)) (hd : (x == ("__debug__" : Str)) = false := by decide)
    (hcd : (x == ("__classdict__" : Str)) = false := by decide) : PE X (.Name x pos) (tVar i) := pe_var hN hv hd hcd
end
theorem iteF {A B : Prop} (h : B) : if false = true then A else B := by
  rw [if_neg Bool.false_ne_true]
  exact h
theorem iteT {A B : Prop} (h : A) : if true = true then A else B := by
  rw [if_pos rfl]
  exact h
theorem ite2 {c A B : Prop} [Decidable c] (h1 : c → A) (h2 : ¬ c → B) : if c then A else B := by
  by_cases h : c
  · rw [if_pos h]
    exact h1 h
  · rw [if_neg h]
    exact h2 h
theorem iteNS {c A B : Prop} [Decidable c] (hc : c) (h : B) : if (!decide c) = true then A else B := by
  rw [decide_eq_true hc]
  exact iteF h
def Same (H H' : Hp) : Prop := ∀ b o, H b = some o → H' b = some o
theorem Same.refl (H : Hp) : Same H H := fun _ _ h => h
theorem Same.trans {H H1 H2 : Hp} (a : Same H H1) (b : Same H1 H2) : Same H H2 := fun c o h => b c o (a c o h)
theorem Same.seq {K : PySem.W.Frag} {H H' : Hp} {a : Addr} {xs : List V} (e : Same H H') (h : SqL K H a xs) : SqL K H' a xs := by
  rcases h with (h | ⟨o, h⟩) | h
  · exact .inl (.inl (e _ _ h))
  · exact .inl (.inr ⟨o, e _ _ h⟩)
  · exact .inr h

end L2
section
set_option maxHeartbeats 4000001
namespace L2
open PySem PySem.Spec PyProof.Rows
def clOf (cells : List (Str × Addr)) : List (Str × NameKind) → List (Str × Addr) → List (Str × Addr)
  | [], cs => cs
  | (n, k) :: r, cs => if k == .free then clOf cells r ((n, (cells.lookup n).getD 0) :: cs) else clOf cells r cs
theorem clOf_run {env : Env} : ∀ (names : List (Str × NameKind)) (cs : List (Str × Addr)), (∀ y ∈ names, y.2 = .free → ∃ c, env.cells.lookup y.1 = some c) →
    (forIn names cs fun x r => match x with | (name, kind) => if (kind == NameKind.free) = true then (do let a ← cellOf env name; pure (ForInStep.yield ((name, a) :: r))) else pure (ForInStep.yield r) : Sem (List (Str × Addr))) = pure (clOf env.cells names cs)
  | [], cs, _ => rfl
  | (n, k) :: r, cs, h => by
    rw [List.forIn_cons]
    by_cases e : (k == NameKind.free) = true
    · obtain ⟨c, hc⟩ := h (n, k) List.mem_cons_self (by simpa using e)
      have hcell : cellOf env n = pure c := by
        have hc' : env.cells.lookup n = some c := hc
        unfold cellOf; rw [hc']
      simp only [e, if_true, hcell, pure_bind]
      rw [clOf_run r _ fun y hy => h y (List.mem_cons_of_mem _ hy)]
      have hc' : env.cells.lookup n = some c := hc
      show _ = pure (if (k == NameKind.free) = true then _ else _)
      rw [if_pos e, hc']
      rfl
    · have ef : (k == NameKind.free) = false := by simpa using e
      simp only [ef, Bool.false_eq_true, if_false, pure_bind]
      rw [clOf_run r _ fun y hy => h y (List.mem_cons_of_mem _ hy)]
      show _ = pure (if (k == NameKind.free) = true then _ else _)
      rw [if_neg e]
theorem closure_eq {scope : Scope} {env : Env} (h : ∀ y ∈ scope.names, y.2 = .free → ∃ c, env.cells.lookup y.1 = some c) : closureFor scope env = pure (clOf env.cells scope.names []) := by
  unfold closureFor
  show (forIn scope.names [] _ >>= fun r => pure r) = _
  rw [bind_pure]
  exact clOf_run _ _ h
theorem clOf_sub {cells : List (Str × Addr)} : ∀ (names : List (Str × NameKind)) (cs : List (Str × Addr)) (x : Str) (c : Addr), (∀ y ∈ names, y.2 = .free → ∃ c, cells.lookup y.1 = some c) →
    (∀ x c, cs.lookup x = some c → cells.lookup x = some c) → (clOf cells names cs).lookup x = some c → cells.lookup x = some c
  | [], cs, x, c, _, hs, e => hs x c e
  | (n, k) :: r, cs, x, c, h, hs, e => by
    unfold clOf at e
    by_cases q : (k == NameKind.free) = true
    · rw [if_pos q] at e
      obtain ⟨c0, hc0⟩ := h (n, k) List.mem_cons_self (by simpa using q)
      refine clOf_sub r _ x c (fun y hy => h y (List.mem_cons_of_mem _ hy)) (fun x' c' e' => ?_) e
      rw [List.lookup_cons] at e'
      cases hx : x' == n with
      | true =>
        rw [hx] at e'
        have hx' : x' = n := by simpa using hx
        subst hx'
        have hc0' : cells.lookup x' = some c0 := hc0
        rw [hc0'] at e' ⊢
        exact e'
      | false =>
        rw [hx] at e'
        exact hs x' c' e'
    · rw [if_neg q] at e
      exact clOf_sub r _ x c (fun y hy => h y (List.mem_cons_of_mem _ hy)) hs e
theorem clOf_keep {cells : List (Str × Addr)} : ∀ (names : List (Str × NameKind)) (cs : List (Str × Addr)) (x : Str), (∃ c, cs.lookup x = some c) → ∃ c, (clOf cells names cs).lookup x = some c
  | [], cs, x, e => e
  | (n, k) :: r, cs, x, e => by
    unfold clOf
    by_cases q : (k == NameKind.free) = true
    · rw [if_pos q]
      refine clOf_keep r _ x ?_
      rw [List.lookup_cons]
      cases hx : x == n with
      | true => exact ⟨_, rfl⟩
      | false => exact e
    · rw [if_neg q]
      exact clOf_keep r _ x e
theorem clOf_has {cells : List (Str × Addr)} : ∀ (names : List (Str × NameKind)) (cs : List (Str × Addr)) (x : Str), names.lookup x = some .free → ∃ c, (clOf cells names cs).lookup x = some c
  | [], cs, x, e => by simp at e
  | (n, k) :: r, cs, x, e => by
    rw [List.lookup_cons] at e
    unfold clOf
    cases hx : x == n with
    | true =>
      rw [hx] at e
      have e' : k = .free := Option.some.inj e
      subst e'
      rw [if_pos (by decide)]
      refine clOf_keep r _ x ?_
      rw [List.lookup_cons, hx]
      exact ⟨_, rfl⟩
    | false =>
      rw [hx] at e
      by_cases q : (k == NameKind.free) = true
      · rw [if_pos q]; exact clOf_has r _ x e
      · rw [if_neg q]; exact clOf_has r _ x e
def asCell (env : Env) (p : Str × NameKind) : Bool := p.2 == .free && env.scope.kind == .function && env.kindOf p.1 == some .cell
def inBlock (env : Env) (p : Str × NameKind) : Str × NameKind := if asCell env p = true then (p.1, .cell) else p
theorem inBlock_fst (env : Env) (p : Str × NameKind) : (inBlock env p).1 = p.1 := by unfold inBlock; split <;> rfl
theorem inBlock_snd (env : Env) (p : Str × NameKind) : (inBlock env p).2 = p.2 ∨ ((inBlock env p).2 = .cell ∧ p.2 = .free) := by
  unfold inBlock
  split
  · rename_i h
    refine .inr ⟨rfl, ?_⟩
    unfold asCell at h
    cases e : p.2 <;> simp [e] at h <;> rfl
  · exact .inl rfl
theorem relabel_names (scope : Scope) (env : Env) : (relabel scope env).names = scope.names.map (inBlock env) := rfl
theorem look_map {f : Str × NameKind → Str × NameKind} (hf : ∀ p, (f p).1 = p.1) : ∀ (l : List (Str × NameKind)) (x : Str), (l.map f).lookup x = none ∧ l.lookup x = none ∨ ∃ p ∈ l, (l.map f).lookup x = some (f p).2 ∧ l.lookup x = some p.2
  | [], _ => .inl ⟨rfl, rfl⟩
  | p :: r, x => by
    have e1 : ((p :: r).map f).lookup x = if x == p.1 then some (f p).2 else (r.map f).lookup x := by
      show List.lookup x (((f p).1, (f p).2) :: r.map f) = _
      rw [List.lookup_cons, hf p]; cases x == p.1 <;> rfl
    have e2 : (p :: r).lookup x = if x == p.1 then some p.2 else r.lookup x := by
      show List.lookup x ((p.1, p.2) :: r) = _
      rw [List.lookup_cons]; cases x == p.1 <;> rfl
    rw [e1, e2]
    cases x == p.1
    · rcases look_map hf r x with z | ⟨q, hq, z⟩
      · exact .inl z
      · exact .inr ⟨q, List.mem_cons_of_mem _ hq, z⟩
    · exact .inr ⟨p, List.mem_cons_self, rfl, rfl⟩
theorem relabel_kind {scope : Scope} {env : Env} {x : Str} {k' : NameKind} (h : (relabel scope env).names.lookup x = some k') : scope.names.lookup x = some k' ∨ (k' = .cell ∧ scope.names.lookup x = some .free) := by
  rw [relabel_names] at h
  rcases look_map (inBlock_fst env) scope.names x with ⟨z, _⟩ | ⟨p, _, z, e⟩
  · rw [z] at h; cases h
  · rw [z] at h
    obtain rfl := Option.some.inj h
    rcases inBlock_snd env p with q | ⟨q, q'⟩
    · rw [q]; exact .inl e
    · exact .inr ⟨q, by rw [e, q']⟩
theorem relabel_free {scope : Scope} {env : Env} {x : Str} (h : scope.names.lookup x = some .free) : (relabel scope env).names.lookup x = some .cell ∨ (relabel scope env).names.lookup x = some .free := by
  rw [relabel_names]
  rcases look_map (inBlock_fst env) scope.names x with ⟨_, z⟩ | ⟨p, _, z, e⟩
  · rw [z] at h; cases h
  · rw [e] at h
    rcases inBlock_snd env p with q | ⟨q, _⟩
    · rw [z, q, h]; exact .inr rfl
    · rw [z, q]; exact .inl rfl
def cxComp (X : Cx) (N' : List Str) (scope : Scope) (C : Addr) (s₀ : Shared) (H₀ : Hp) (fp : List Addr) (pins : List (Addr × Obj)) : Cx :=
  { X with N := N', s₀ := s₀, H₀ := H₀, env := compEnvC scope (clOf X.env.cells scope.names []) C X.env, outer := X.stack, stack := X.stack, ex := fp, fn := fun _ => false, pn := X.pn ++ pins, xe := fun _ _ => False }
def capσ (cap : List (Option Nat)) (σ : St) : St := cap.map fun o => match o with | some i => (match σ[i]? with | some v => v | none => none) | none => none
def tst (M : Model) (A : Around) (env : Env) (E : Value → Shared → Prop) (o : Option Expr) (Q : Bool → Shared → Prop) (s : Shared) : Prop := match o with
  | none => Q true s
  | some c => wpAny M A (isTrue c env (eval c env)) Q E s
theorem tst_mono {M : Model} {A : Around} {env : Env} {E : Value → Shared → Prop} {o : Option Expr} {Q Q' : Bool → Shared → Prop} {s : Shared} (h : tst M A env E o Q s) (k : ∀ b z, Q b z → Q' b z) : tst M A env E o Q' s := by
  cases o with
  | none => exact k _ _ h
  | some c => exact thn h k
def PTo (X : Cx) (o : Option Expr) (t : TT) : Prop :=
  ∀ (pins : List (Addr × Obj)) (s : Shared) (σ : St) (H : Hp) (Q : Bool → Hp → Prop), Inv X pins σ H s → t σ H Q → tst (model X.prog X.w) X.A X.env X.xe o (TP X pins σ Q) s
def tYes : TT := fun _ H Q => Q true H
theorem pt_none {X : Cx} : PTo X none tYes := fun _ _ _ H _ I h => ⟨H, I, h⟩
abbrev NoX : Value → Shared → Prop := fun _ _ => False
def Go (M : Model) (A : Around) (tg elt : Expr) (o : Option Expr) (it acc : Value) (env : Env) (R : Result → Shared → Prop) (onward : Shared → Prop) (s : Shared) : Prop :=
  wpAny M A (pyNext it) (fun r a => match r with
    | none => R (.ok .next) a
    | some v => wpAny M A (letOwnedTupleGo tg it v) (fun _ b => wpAny M A (assign tg env v) (fun _ c => tst M A env NoX o (fun yes d =>
        if yes = true then wpAny M A (eval elt env) (fun x e => wpAny M A (call (.builtin "list.append") [acc, x]) (fun _ f => onward f) NoX e) NoX d else onward d) c) NoX b) NoX a) NoX s
theorem comp_loop {prog : Program} {w : World} {A : Around} {R : Result → Shared → Prop} {s : Shared} {elt tg iter : Expr} {o : Option Expr} {scope : Scope} {pos : Pos} {it acc : Value} {env : Env} (J : Nat → Shared → Prop)
    (turn : ∀ n s, J n s → Go (model prog w) A tg elt o it acc env R (fun z => ∃ m, m < n ∧ J m z) s) (n : Nat) (h : J n s) :
    codeAny (model prog w) A (.compLoop (.ListComp elt [⟨tg, iter, o.toList, 0⟩] scope pos) 0 it acc env) R s := by
  cases o with
  | none =>
    refine PySem.W.kcp_loop J (fun n a ha => wpAny_mono (turn n a ha) (fun r b hb => ?_) fun _ _ z => z.elim) n h
    cases r with
    | none => exact hb
    | some v => exact wpAny_mono hb (fun _ c hc => wpAny_mono hc (fun _ d hd => wpAny_mono (show wpAny _ _ _ _ _ d from hd) (fun x e he => wpAny_mono he (fun _ _ q => q) fun _ _ z => z.elim) fun _ _ z => z.elim) fun _ _ z => z.elim) fun _ _ z => z.elim
  | some t =>
    refine PySem.W.kct_loop J (fun n a ha => wpAny_mono (turn n a ha) (fun r b hb => ?_) fun _ _ z => z.elim) n h
    cases r with
    | none => exact hb
    | some v =>
      refine wpAny_mono hb (fun _ c hc => wpAny_mono hc (fun _ d hd => wpAny_mono (show wpAny _ _ _ _ _ d from hd) (fun yes e he => ?_) fun _ _ z => z.elim) fun _ _ z => z.elim) fun _ _ z => z.elim
      cases yes
      · exact he
      · exact wpAny_mono (show wpAny _ _ _ _ _ e from he) (fun x f hf => wpAny_mono hf (fun _ _ q => q) fun _ _ z => z.elim) fun _ _ z => z.elim
structure CapOk (N N' : List Str) (sc scope : Scope) (cap : List (Option Nat)) : Prop where
  kind : scope.kind = .function
  nocell : ∀ y ∈ scope.names, y.2 ≠ .cell
  names : ∀ y ∈ scope.names, y.2 = .local → scope.names.lookup y.1 = some .local
  free : ∀ y ∈ scope.names, y.2 = .free → sc.names.lookup y.1 = some .cell ∨ sc.names.lookup y.1 = some .free
  len : cap.length = N'.length
  cap : ∀ p ∈ N'.zip cap, ∀ i, p.2 = some i → N[i]? = some p.1 ∧ scope.names.lookup p.1 = some .free ∧ (sc.names.lookup p.1 = some .cell ∨ sc.names.lookup p.1 = some .free)
theorem lookup_mem {α : Type} : ∀ {l : List (Str × α)} {x : Str} {a : α}, l.lookup x = some a → (x, a) ∈ l
  | [], _, _, h => by simp at h
  | (n, k) :: r, x, a, h => by
    rw [List.lookup_cons] at h
    cases hx : x == n with
    | true =>
      rw [hx] at h
      have e : k = a := Option.some.inj h
      have e2 : x = n := by simpa using hx
      subst e e2
      exact List.mem_cons_self
    | false => rw [hx] at h; exact List.mem_cons_of_mem _ (lookup_mem h)

theorem HOk.sameBut {P : Program} {w : World} {H : Hp} {h h' : Heap} {C : Addr} (ok : HOk P w H h) (hC : H C = none) (sb : Heap.SameBut C h h') : HOk P w H h' := fun b ob e => by
  refine (ok b ob e).stay (fun c w' hc q => (sb.2 c ?_).trans q) (fun _ q => q) fun _ _ q => q
  rintro rfl
  rcases hc with rfl | hc
  · rw [hC] at e; cases e
  · rw [hC] at hc; cases hc
def LCW (J : It) (g : TG) (tt : TT) (te : TE) (l : Addr) (Q : VK) (W : Nat → Nat → List V → St → Hp → Prop) : Prop :=
  ∀ i m acc σ' H', W i m acc σ' H' → H' l = some (.lst acc) ∧
    ((J.stop i H' ∧ Q (.ref l) H') ∨ (J.go i H' ∧ ∀ x H2, J.yld i H' x H2 → g x σ' H2 fun σ3 H3 => tt σ3 H3 fun b H4 =>
      if b = true then te σ3 H4 fun y H5 => H5 l = some (.lst acc) ∧ acc.length < sizeLine ∧ ∃ m', m' < m ∧ W (i + 1) m' (acc ++ [y]) σ3 (upd H5 l (.lst (acc ++ [y])))
      else ∃ m', m' < m ∧ W (i + 1) m' acc σ3 H4))
def tLC (cap : List (Option Nat)) (wi : TI) (g : TG) (tt : TT) (te : TE) : TE := fun σ H Q => wi σ H fun J H1 => ∀ l, H1 l = none →
  ∃ W : Nat → Nat → List V → St → Hp → Prop, (∃ m, W 0 m [] (capσ cap σ) (upd H1 l (.lst []))) ∧ LCW J g tt te l Q W
end L2
end
section
set_option maxHeartbeats 4000001
namespace L2
open PySem PySem.Spec PyProof.Rows
theorem lc_core {X : Cx} {elt tg iter : Expr} {o : Option Expr} {scope : Scope} {pos ppos : Pos} {wi : TI} {g : TG} {tt : TT} {te : TE} {N' : List Str} {cap : List (Option Nat)} {use : Option (Value → Sem Unit)} {Q0 : Value → Shared → Prop}
    (hc : X.calm = true) (hi : PI X tg iter wi) (ck : CapOk X.N N' X.env.scope scope cap)
    (hg : ∀ C s₀ H₀ fp pins, PG (cxComp X N' scope C s₀ H₀ fp pins) tg g)
    (ht : ∀ C s₀ H₀ fp pins, PTo (cxComp X N' scope C s₀ H₀ fp pins) o tt)
    (he : ∀ C s₀ H₀ fp pins, PE (cxComp X N' scope C s₀ H₀ fp pins) elt te)
    (hs : ∀ x, foldedSetIterable iter X.env x = pure x) {pins : List (Addr × Obj)} {s : Shared} {σ : St} {H : Hp} {Q : VK} (I : Inv X pins σ H s) (h : tLC cap wi g tt te σ H Q)
    (fin : ∀ (l C : Addr) (H4 : Hp) (s5 : Shared) (m : Str → Option Value), Inv X pins σ H4 s5 → Q (.ref l) H4 → s5.heap.Ns C m → FpOk X pins H4 C → compPost (model X.prog X.w) X.A X.xe use Q0 (.ref l) C (.ok .next) s5) :
    wpAny (model X.prog X.w) X.A (comprehension (.ListComp elt [⟨tg, iter, o.toList, 0⟩] scope pos) scope X.env ppos (newList []) false (eval iter X.env) use) Q0 X.xe s := by
  have hcells : ∀ y ∈ scope.names, y.2 = .free → ∃ c, X.env.cells.lookup y.1 = some c := fun y hy hf => I.ok.has y.1 (ck.free y hy hf)
  refine wpAny_comprehension_free (use := use) rfl hs (closure_eq hcells) ck.kind ck.names (thn (hi pins s σ H _ I h) fun v s1 h1 => thn h1 fun itv s2 h2 => ?_)
  obtain ⟨it, fp, tn, J, H2, e, I2, T, st2, f2, body⟩ := h2
  subst e
  have hfr2 : H2 s2.heap.objs.size = none := I2.hok.fresh (Nat.le_refl _)
  obtain ⟨W, ⟨m0, w0⟩, turn⟩ := body s2.heap.objs.size hfr2
  have I3 : Inv X pins σ (upd H2 s2.heap.objs.size (.lst [])) { s2 with heap := s2.heap.push { cls := .type "list", data := .seq ([] : List Value).toArray }, toks := s2.toks } := I2.lnew (its := []) (t' := s2.toks) .nil (Nat.zero_le _)
  refine wpAny_newObj_type (wpAny_newFunctionEnv ck.nocell (by intro y hy; simp at hy) (fun h₁ hns₁ hsb₁ => ?_) ck.kind)
  dsimp only at hns₁ hsb₁ ⊢
  generalize hl : s2.heap.objs.size = l at *
  generalize hP : s2.heap.push { cls := .type "list", dict := none, data := .seq ([] : List Value).toArray } = P2 at *
  generalize hH3 : upd H2 l (.lst []) = H3 at *
  have old : ∀ b o, P2.get? b = some o → h₁.get? b = some o := fun b o e => hsb₁.extBut b o (Nat.ne_of_lt (Heap.lt_size e)) (Heap.get?_push_of_some _ e)
  have old2 : ∀ b o, s2.heap.get? b = some o → P2.get? b = some o := fun b o e => hP ▸ Heap.get?_push_of_some _ e
  have fpl : ∀ b ∈ fp, b < l := fun b hb => by
    obtain ⟨o, e, _⟩ := T.obj _ _ st2 b hb
    rw [← hl]; exact Heap.lt_size e
  have fp3 : ∀ b ∈ fp, H3 b = none := fun b hb => by
    rw [← hH3, upd_ne (Nat.ne_of_lt (fpl b hb))]; exact (f2 b hb).1
  have hPs : P2.objs.size = l + 1 := by rw [← hP, Heap.size_push, hl]
  have subc : ∀ x c, (clOf X.env.cells scope.names []).lookup x = some c → X.env.cells.lookup x = some c := fun x c e => clOf_sub _ _ x c hcells (fun _ _ z => by simp at z) e
  generalize hs3 : ({ s2 with heap := P2, toks := s2.toks } : Shared) = s3 at *
  have hs3h : s3.heap = P2 := by rw [← hs3]
  let Y := cxComp X N' scope P2.objs.size s3 H3 fp pins
  have hYok : Y.Ok := by
    refine ⟨I3.ok.mod, ck.kind, I3.ok.glob, I3.ok.blt, by show s3.heap.objs.size ≤ P2.objs.size; rw [hs3h]; exact Nat.le_refl _, fun x y c e1 e2 => I3.ok.inj x y c (subc x c e1) (subc y c e2), fun x hx => ?_, fun x c hx => absurd (show false = true from hx) Bool.false_ne_true, I3.ok.hd, I3.ok.frames, .inl rfl, fun b hb => ⟨?_, fun x c e => ?_⟩, I3.bs,
      Nat.le_trans I3.ok.bsz I3.sz, fun b o e hb => ?_, fun b hb hz => ?_, I3.stack, I3.stkFree⟩
    · have hx' : scope.names.lookup x = some .free := by
        rcases hx with hx | hx
        · rcases relabel_kind hx with z | z
          · exact absurd rfl (ck.nocell _ (lookup_mem z))
          · exact z.2
        · rcases relabel_kind hx with z | z
          · exact z
          · exact z.2
      exact clOf_has _ _ x hx'
    · exact Nat.ne_of_lt (by show b < P2.objs.size; rw [hPs]; exact Nat.lt_succ_of_lt (fpl b hb))
    · exact (f2 b hb).2.2.2.2.1 x c (subc x c e)
    · rcases (f2 b hb).2.2.2.1 with z | z
      · exact I3.ok.noex b o e z
      · exact absurd (Nat.lt_of_lt_of_le (Heap.lt_size e) (Nat.le_trans I3.ok.bsz z)) (Nat.lt_irrefl _)
    · rcases List.mem_cons.mp (I3.stkSub b hz) with z | z
      · exact (f2 b hb).2.1 z
      · exact (f2 b hb).2.2.1 z
  have hYi : Inv Y [] (capσ cap σ) H3 { s2 with heap := h₁, toks := s2.toks } := by
    refine ⟨hYok, by show s2.os = s3.os; rw [← hs3], I2.bare, by show Un _ _ _ _ s3.heap h₁; rw [hs3h]; exact Un.kept old, ⟨_, hns₁, fun j x v e1 e2 e3 => ?_⟩, fun x c e => ?_, ?_, fun x c e => I3.freeC x c (subc x c e), fun p hp => ?_, fun b o e => ?_, ?_⟩
    · have e1' : N'[j]? = some x := e1
      unfold capσ at e2
      rw [List.getElem?_map] at e2
      cases ec : cap[j]? with
      | none => rw [ec] at e2; cases e2
      | some oc =>
        rw [ec] at e2
        cases oc with
        | none => cases e2
        | some i =>
          have e2' : σ[i]? = some (some v) := by
            cases ei : σ[i]? with
            | none => simp [ei] at e2
            | some v' =>
              simp [ei] at e2
              rw [e2]
          have hz : (x, some i) ∈ N'.zip cap := by
            refine List.mem_of_getElem? (i := j) ?_
            rw [List.getElem?_zip_eq_some]
            exact ⟨e1', ec⟩
          obtain ⟨hN, hf, hk⟩ := ck.cap _ hz i rfl
          obtain ⟨m, hn, hlo⟩ := I3.loc
          obtain ⟨u, r, lk⟩ := hlo i x v hN e2' (by rcases hk with z | z; exact .inr (.inl z); exact .inr (.inr z))
          refine ⟨u, r, .inr ⟨?_, ?_⟩⟩
          · exact relabel_free hf
          · rcases lk with ⟨z, _⟩ | ⟨_, c, hcx, hcell⟩
            · have z' : X.env.scope.names.lookup x = some .local := z
              rcases hk with q | q
              · rw [q] at z'; cases z'
              · rw [q] at z'; cases z'
            · obtain ⟨c', hc'⟩ := clOf_has (cells := X.env.cells) scope.names [] x hf
              have := subc x c' hc'
              rw [hcx] at this; cases this
              obtain ⟨ob, e, d⟩ := hcell
              rw [hs3h] at e
              exact ⟨c, hc', ob, old c ob e, d⟩
    · obtain ⟨v, ob, e', d⟩ := I3.cell x c (subc x c e)
      rw [hs3h] at e'
      exact ⟨v, ob, old c ob e', d⟩
    · refine I3.hok.fresh ?_
      rw [hs3h]; exact Nat.le_refl _
    · have hp' : p ∈ X.pn ++ pins := (List.mem_append.mp hp).elim (fun z => z) (fun z => nomatch z)
      obtain ⟨e, n, ne, nf, d⟩ := I3.pin p hp'
      rw [hs3h] at e
      refine ⟨old _ _ e, n, Nat.ne_of_lt (Heap.lt_size e), fun z => ?_, d⟩
      rcases List.mem_cons.mp (I3.stkSub _ z) with q | q
      · exact ne q
      · exact nf q
    · have := I3.hok.kept (h' := h₁) (fun b u q => old b u (by rw [← hs3h]; exact q))
      exact this b o e
    · show (cap.map _).length = N'.length
      rw [List.length_map, ck.len]
  have stat : ∀ {H' : Hp}, (∀ b ∈ fp, H' b = none) → ∀ b ∈ fp, FpOk Y [] H' b := fun {H'} hn b hb => by
    refine ⟨hn b hb, (hYok.exf b hb).1, hYok.exfs b hb, .inl hb, (hYok.exf b hb).2, fun p hp => ?_⟩
    have hp' : p ∈ X.pn ++ pins := (List.mem_append.mp hp).elim (fun z => z) (fun z => nomatch z)
    exact (f2 b hb).2.2.2.2.2 p hp'
  have st1 : tn 0 h₁ := T.keep 0 _ _ st2 fun b hb o e => old b o (old2 b o e)
  have loop : codeAny (model X.prog X.w) X.A (.compLoop (.ListComp elt [⟨tg, iter, o.toList, 0⟩] scope pos) 0 (.ref it) (.ref l) Y.env) (compPost (model X.prog X.w) X.A X.xe use Q0 (.ref l) P2.objs.size) { s2 with heap := h₁, toks := s2.toks } := by
    refine comp_loop (fun n s' => ∃ i acc σ' H', Inv Y [] σ' H' s' ∧ tn i s'.heap ∧ (∀ b ∈ fp, H' b = none) ∧ W i n acc σ' H') ?_ m0 ⟨0, [], _, H3, hYi, st1, fp3, w0⟩
    rintro n s4 ⟨i, acc, σ4, H4, I4, st4, fr4, w4⟩
    obtain ⟨hlst, q4⟩ := turn i n acc σ4 H4 w4
    rcases q4 with ⟨stop, qn⟩ | ⟨go, step⟩
    · refine thn (T.done Y rfl rfl rfl hc i [] s4 σ4 H4 Y.xe I4 (stat fr4) st4 stop) fun r s5 ⟨hr, I5⟩ => ?_
      subst hr
      obtain ⟨m, hn, _⟩ := id I5.loc
      have un : Un (frs X.stack) fp H3 H4 s3.heap s5.heap := I5.base
      have sz3 : s3.heap.objs.size ≤ P2.objs.size := by rw [hs3h]; exact Nat.le_refl _
      have IX : Inv X pins σ H4 s5 := I3.call' (ch := fp) I5.os un I5.hok I5.bare fun b hb => ⟨(f2 b hb).2.2.2.1, (f2 b hb).2.1, (f2 b hb).2.2.2.2.1, (f2 b hb).2.2.2.2.2⟩
      exact fin l P2.objs.size H4 s5 m IX qn hn (I3.fpOk sz3 I5.free)
    · refine thn (T.item Y rfl rfl rfl hc i [] s4 σ4 H4 Y.xe I4 (stat fr4) st4 go) fun r s5 ⟨u, hr, h5⟩ => ?_
      subst hr
      refine thn h5 fun _ s6 ⟨x, H6, I6, r6, y6, st6, fr6⟩ => ?_
      have I6' := I6.pinned (stat fr6) (T.obj _ _ st6)
      refine thn (hg _ _ _ _ _ _ s6 σ4 H6 x u _ I6' r6 (step x H6 y6)) fun _ s7 ⟨σ7, H7, I7, q7⟩ => ?_
      refine tst_mono (ht _ _ _ _ _ _ s7 σ7 H7 _ I7 q7) fun b s8 ⟨H8, I8, q8⟩ => ?_
      have again : ∀ {σ9 : St} {H9 : Hp} {s9 : Shared} {acc9 : List V}, Inv Y ([] ++ pinsAt fp s6.heap) σ9 H9 s9 → (∃ m', m' < n ∧ W (i + 1) m' acc9 σ9 H9) → ∃ m, m < n ∧ ∃ i acc σ' H', Inv Y [] σ' H' s9 ∧ tn i s9.heap ∧ (∀ b ∈ fp, H' b = none) ∧ W i m acc σ' H' := fun {σ9 H9 s9 acc9} I9 ⟨m', hm, w9⟩ => by
        refine ⟨m', hm, i + 1, acc9, σ9, H9, I9.unpinned, T.keep _ _ _ st6 fun b hb o e => (I9.pin (b, o) (List.mem_append_right _ (List.mem_append_right _ (mem_pinsAt hb e)))).1, fun b hb => ?_, w9⟩
        obtain ⟨o, e, d⟩ := T.obj _ _ st6 b hb
        exact (I9.pin (b, o) (List.mem_append_right _ (List.mem_append_right _ (mem_pinsAt hb e)))).2.1
      cases b with
      | false =>
        rw [if_neg Bool.false_ne_true] at q8 ⊢
        exact again I8 q8
      | true =>
        rw [if_pos rfl] at q8 ⊢
        refine thn (he _ _ _ _ _ _ s8 σ7 H8 _ I8 q8) fun yv s9 ⟨y, H9, I9, r9, hl9, hz9, q9⟩ => ?_
        refine thn (mt_append (X := Y) _ s9 σ7 H9 (.ref l) [y] (.ref l) [yv] (fun _ H' => H' = upd H9 l (.lst (acc ++ [y]))) I9 rfl (.cons r9 .nil) ⟨l, acc, y, rfl, rfl, hl9, hz9, rfl⟩) fun _ s10 ⟨_, H10, I10, _, e10⟩ => ?_
        subst e10
        exact again I10 q9
  exact codeAny_compStart_list loop (T.self X.A 0 _ _ _ st1 loop)
theorem Inv.gone {X : Cx} {pins : List (Addr × Obj)} {σ : St} {H : Hp} {s : Shared} {C : Addr} {h' : Heap} (I : Inv X pins σ H s) (f : FpOk X pins H C) (sb : Heap.SameBut C s.heap h') : Inv X pins σ H { s with heap := h' } :=
  I.turned (t' := s.toks) (fun b o hb e => (sb.2 b hb).trans e) f.1 f.2.1 f.2.2.2.1 f.2.2.2.2.1 f.2.2.2.2.2
theorem pe_lc {X : Cx} {elt tg iter : Expr} {o : Option Expr} {scope : Scope} {pos : Pos} {wi : TI} {g : TG} {tt : TT} {te : TE} {N' : List Str} {cap : List (Option Nat)}
    (hc : X.calm = true) (hi : PI X tg iter wi) (ck : CapOk X.N N' X.env.scope scope cap)
    (hg : ∀ C s₀ H₀ fp pins, PG (cxComp X N' scope C s₀ H₀ fp pins) tg g)
    (ht : ∀ C s₀ H₀ fp pins, PTo (cxComp X N' scope C s₀ H₀ fp pins) o tt)
    (he : ∀ C s₀ H₀ fp pins, PE (cxComp X N' scope C s₀ H₀ fp pins) elt te)
    (hs : ∀ x, foldedSetIterable iter X.env x = pure x := by intro _; rfl) :
    PE X (.ListComp elt [⟨tg, iter, o.toList, 0⟩] scope pos) (tLC cap wi g tt te) := by
  intro pins s σ H Q I h
  rw [eval_ListComp]
  exact lc_core (use := none) hc hi ck hg ht he hs I h fun l C H4 s5 m I5 q hn f => ⟨m, hn, fun h' sb => ⟨.ref l, H4, I5.gone f sb, rfl, q⟩⟩
theorem ps_setLC {X : Cx} {i : Nat} {y : Str} {elt tg iter : Expr} {o : Option Expr} {scope : Scope} {pos spos py : Pos} {wi : TI} {g : TG} {tt : TT} {te : TE} {N' : List Str} {cap : List (Option Nat)}
    (hN : X.N.Nodup) (hi' : X.N[i]? = some y) (hy : X.env.scope.names.lookup y = some .local) (hc : X.calm = true) (hi : PI X tg iter wi) (ck : CapOk X.N N' X.env.scope scope cap)
    (hg : ∀ C s₀ H₀ fp pins, PG (cxComp X N' scope C s₀ H₀ fp pins) tg g)
    (ht : ∀ C s₀ H₀ fp pins, PTo (cxComp X N' scope C s₀ H₀ fp pins) o tt)
    (he : ∀ C s₀ H₀ fp pins, PE (cxComp X N' scope C s₀ H₀ fp pins) elt te)
    (hs : ∀ x, foldedSetIterable iter X.env x = pure x := by intro _; rfl)
    (hsw : swapsWith (.ListComp elt [⟨tg, iter, o.toList, 0⟩] scope pos) (some (.Name y py)) spos.line X.env = pure true := by with_unfolding_all rfl) :
    PS X (.Assign [.Name y py] (.ListComp elt [⟨tg, iter, o.toList, 0⟩] scope pos) spos) (tAsg (tLC cap wi g tt te) (gName i)) := by
  intro pins s σ H D I h
  rw [exec_Assign_Name_used y py _ spos hsw]
  refine wpAny_bind (wpAny_standAt (wpAny_bind (wpAny_bind (thn (lc_core (use := some (assign (.Name y py) X.env)) (Q0 := fun _ z => SP X pins D .next z) hc hi ck hg ht he hs I h fun l C H4 s5 m I5 q hn f => ?_) fun _ z hz => wpAny_pure (wpAny_pure hz)))))
  refine wpAny_assign_Name (store_ok2 (v := .ref l) I5 hN hi' (.inl hy) rfl (fun s6 I6 ⟨a, sb, ha⟩ => ?_) (.inr hy))
  have nC : C ≠ a := by
    rcases ha with z | z
    · rw [z]; exact f.2.1
    · exact fun w => f.2.2.2.2.1 y a z w.symm
  have hn6 : s6.heap.Ns C m := hn.sameBut sb nC
  exact ⟨m, hn6, fun h' sb' => ⟨_, H4, I6.gone f sb', q⟩⟩
end L2
end
section
set_option maxHeartbeats 4000001
namespace Own
open PySem PySem.Spec PyProof.Rows
section
variable {M : Model} {prog : Program} {w : World} {A : Around} {E : Value → Shared → Prop} {s : Shared} {α : Type} {Q : α → Shared → Prop}
theorem rf {a : Addr} {o : Obj} {vs : Array Value} {x : Value} {f : Value → Sem α} (k : Nat) (ho : s.heap.get? a = some o) (hd : o.data = .fields vs) (hx : vs[k]? = some x) (h : wpAny M A (f x) Q E s) :
    wpAny M A (field (.ref a) k >>= f) Q E s := wpAny_bind (wpAny_field ho hd hx h)
theorem nx {T id : String} {B : Builtin} {it : Addr} {P : Value → Shared → Prop} (slot : Slot T "__next__" id) (ty : s.TypeIs (.ref it) T) (en : entryFor table id = some B) (ok : argsOk id ⟨[.ref it], []⟩)
    (h : wpAny (model prog w) A.in1 (B ⟨[.ref it], []⟩) (fun r s' => ∃ v, r = .done (.ret v) ∧ P v s') E s) : wpAny (model prog w) A (Builtin.SmallTypes.nextOf (.ref it)) P E s := by
  unfold Builtin.SmallTypes.nextOf; refine wpAny_bind (wpAny_callSpecial?_slot (name := "__next__") ty slot (wpAny_call_entry slot ty en (thn2 h) ok))
where
  thn2 {B' : Sem Fin} {P : Value → Shared → Prop} {A' : Around} (h : wpAny (model prog w) A' B' (fun r s' => ∃ v, r = .done (.ret v) ∧ P v s') E s) :
      wpAny (model prog w) A' B' (fun r s' => ∃ v, r = .done (.ret v) ∧ wpAny (model prog w) A (pure v) P E s') E s :=
    wpAny_mono h (fun _ _ ⟨v, e, q⟩ => ⟨v, e, wpAny_pure q⟩) fun _ _ z => z
end
theorem ends {A : Around} {E : Value → Shared → Prop} {prog : Program} {w : World} {s : Shared} {α : Type} {Q : α → Shared → Prop} (hh : A.handled = none)
    (h : ∀ h' x, (∀ b o, s.heap.get? b = some o → h'.get? b = some o) → (∃ o, h'.get? x = some o ∧ o.cls = .type "StopIteration") → E (.ref x) { s with heap := h' }) :
    wpAny (model prog w) A (Builtin.SmallTypes.stopIteration : Sem α) Q E s := by
  unfold Builtin.SmallTypes.stopIteration newExc newTuple
  refine wpAny_bind (wpAny_bind (wpAny_newObj_type ?_ (by size_fits)))
  refine wpAny_bind (wpAny_of_eq (a := Value.none) (by rfl) (wpAny_newObj_type (wpAny_raiseNew_none hh (h _ _ (fun b o e => ?_) ⟨_, Heap.get?_push_size _ rfl, rfl⟩)) (by size_fits)))
  exact Heap.get?_push_of_some _ (Heap.get?_push_of_some _ e)
def cN : Bool → String
  | true => "list_iterator"
  | false => "tuple_iterator"
abbrev RIt (b : Bool) (h : Heap) (it a : Addr) (i : Int) : Prop := h.get? it = some { cls := .type (cN b), dict := none, data := .fields #[.ref a, .int i 0], slots := #[] }
def SqO : Bool → Heap → Addr → Array Value → Prop
  | true, h, a, xs => h.IsList a xs
  | false, h, a, xs => h.IsTuple a xs
theorem SqO.ob {b : Bool} {h : Heap} {a : Addr} {xs : Array Value} (x : SqO b h a xs) : ∃ o n, h.get? a = some o ∧ o.data = .seq xs n := by
  cases b <;> (obtain ⟨o, e, _, n, d⟩ := x; exact ⟨o, n, e, d⟩)
theorem SqO.mv {b : Bool} {h h' : Heap} {a : Addr} {xs : Array Value} (x : SqO b h a xs) (k : ∀ o, h.get? a = some o → h'.get? a = some o) : SqO b h' a xs := by
  cases b <;> (obtain ⟨o, e, r⟩ := x; exact ⟨o, k o e, r⟩)
theorem SqO.ne {b b' : Bool} {h : Heap} {a it a' : Addr} {i : Int} {xs : Array Value} (x : SqO b h a xs) (y : RIt b' h it a' i) : a ≠ it := fun z => by
  obtain ⟨o, n, e, d⟩ := x.ob
  rw [z, y] at e; cases e; cases d
section
variable {prog : Program} {w : World} {A : Around} {E : Value → Shared → Prop} {s : Shared}
theorem ty {b : Bool} {it a : Addr} {i : Int} (y : RIt b s.heap it a i) : s.TypeIs (.ref it) (cN b) := ⟨_, y, rfl⟩
theorem rise_go {b : Bool} {it a : Addr} {i : Nat} {xs : Array Value} {x : Value} {P : Value → Shared → Prop} {B : Builtin} (hB : B = match b with | true => Builtin.«list_iterator.__next__» | false => Builtin.«tuple_iterator.__next__»)
    (y : RIt b s.heap it a i) (sq : SqO b s.heap a xs) (hx : xs[i]? = some x) (h : ∀ h', RIt b h' it a (i + 1) → Heap.SameBut it s.heap h' → P x { s with heap := h' }) :
    wpAny (model prog w) A (B ⟨[.ref it], []⟩) (fun r s' => ∃ v, r = .done (.ret v) ∧ P v s') E s := by
  obtain ⟨o, n, e, d⟩ := sq.ob
  have fin : wpAny (model prog w) A (match xs[(i : Int).toNat]? with
      | some x => (do setField (.ref it) 1 (rawInt ((i : Int) + 1)); ret x : Sem Fin)
      | none => Builtin.SmallTypes.stopIteration) (fun r s' => ∃ v, r = .done (.ret v) ∧ P v s') E s := by
    rw [Int.toNat_natCast, hx]
    exact wpAny_bind (wpAny_setField_rec y (show 1 < 2 by decide) fun h' y' sb => wpAny_pure ⟨x, rfl, h h' y' sb⟩)
  rw [Int.toNat_natCast, hx] at fin
  subst hB
  cases b <;>
  · refine rf 0 y rfl rfl (PyIte (show ¬ ((Value.ref a == Value.none) = true) from Bool.false_ne_true) (rf 1 y rfl rfl (wpAny_bind (wpAny_seqItems e d ?_))))
    simp only [Int.toNat_natCast, hx]; exact fin
where
  PyIte {c : Prop} [Decidable c] {α : Type} {a b : Sem α} {M : Model} {A : Around} {Q : α → Shared → Prop} {E : Value → Shared → Prop} {s : Shared} (hc : ¬ c) (h : wpAny M A b Q E s) : wpAny M A (if c then a else b) Q E s := by
    rw [if_neg hc]; exact h
theorem rise_stop {b : Bool} {it a : Addr} {i : Nat} {xs : Array Value} {Q : Fin → Shared → Prop} {B : Builtin} (hB : B = match b with | true => Builtin.«list_iterator.__next__» | false => Builtin.«tuple_iterator.__next__»)
    (hh : A.handled = none) (y : RIt b s.heap it a i) (sq : SqO b s.heap a xs) (hx : xs[i]? = none)
    (h : ∀ h' x, (∀ c o, c ≠ it → s.heap.get? c = some o → h'.get? c = some o) → (∃ o, h'.get? x = some o ∧ o.cls = .type "StopIteration") → E (.ref x) { s with heap := h' }) :
    wpAny (model prog w) A (B ⟨[.ref it], []⟩) Q E s := by
  obtain ⟨o, n, e, d⟩ := sq.ob
  subst hB
  cases b <;>
  · refine rf 0 y rfl rfl (rise_go.PyIte (show ¬ ((Value.ref a == Value.none) = true) from Bool.false_ne_true) (rf 1 y rfl rfl (wpAny_bind (wpAny_seqItems e d ?_))))
    simp only [Int.toNat_natCast, hx]; refine wpAny_bind (wpAny_rule (wpAny_bind (wpAny_setField_rec y (show 0 < 2 by decide) fun h1 _ sb => ?_)))
    exact ends hh fun h2 x k z => h h2 x (fun c o hc q => k c o ((sb.2 c hc).trans q)) z
theorem next_go {b : Bool} {it a : Addr} {i : Nat} {xs : Array Value} {x : Value} {P : Value → Shared → Prop} (y : RIt b s.heap it a i) (sq : SqO b s.heap a xs) (hx : xs[i]? = some x)
    (h : ∀ h', RIt b h' it a (i + 1) → Heap.SameBut it s.heap h' → P x { s with heap := h' }) : wpAny (model prog w) A (Builtin.SmallTypes.nextOf (.ref it)) P E s := by
  cases b
  · exact nx F.slot_tuple_iterator_next (ty y) F.entry_tuple_iterator_next (F.args_tuple_iterator_next_1 _) (rise_go (b := false) rfl y sq hx h)
  · exact nx slot_listiter_next (ty y) entry_listiter_next (args_listiter_next _) (rise_go (b := true) rfl y sq hx h)
theorem next_stop {b : Bool} {it a : Addr} {i : Nat} {xs : Array Value} {P : Value → Shared → Prop} (hh : A.handled = none) (y : RIt b s.heap it a i) (sq : SqO b s.heap a xs) (hx : xs[i]? = none)
    (h : ∀ h' x, (∀ c o, c ≠ it → s.heap.get? c = some o → h'.get? c = some o) → (∃ o, h'.get? x = some o ∧ o.cls = .type "StopIteration") → E (.ref x) { s with heap := h' }) :
    wpAny (model prog w) A (Builtin.SmallTypes.nextOf (.ref it)) P E s := by
  have inner : A.in1.handled = none := hh
  cases b
  · exact nx F.slot_tuple_iterator_next (ty y) F.entry_tuple_iterator_next (F.args_tuple_iterator_next_1 _) (rise_stop (b := false) rfl inner y sq hx h)
  · exact nx slot_listiter_next (ty y) entry_listiter_next (args_listiter_next _) (rise_stop (b := true) rfl inner y sq hx h)
theorem iter_of {b : Bool} {a : Addr} {xs : Array Value} {P : Value → Shared → Prop} (sq : SqO b s.heap a xs)
    (h : P (.ref s.heap.objs.size) { s with heap := s.heap.push { cls := .type (cN b), data := .fields #[.ref a, .int 0 0] } }) : wpAny (model prog w) A (pyIter (.ref a)) P E s := by
  cases b
  · exact wpAny_pyIter_tuple sq h
  · exact wpAny_pyIter_list sq h
end
theorem draws {prog : Program} {w : World} {A : Around} (hh : A.handled = none) (b : Bool) (it a : Addr) (xs : Array Value) (hne : a ≠ it) :
    Draws prog w A it [it, a] xs.size (fun i v => xs[i]? = some v) (fun i h => RIt b h it a i ∧ SqO b h a xs) :=
  ⟨fun _ _ st => ⟨_, st.1⟩, fun _ _ _ st k => ⟨k it List.mem_cons_self _ st.1, st.2.mv fun o e => k a (List.mem_cons_of_mem _ List.mem_cons_self) o e⟩,
    fun i s Q E hi st k => next_go st.1 st.2 (Array.getElem?_eq_getElem hi) fun h' y sb => k _ h' s.toks (Array.getElem?_eq_getElem hi) ⟨y, st.2.mv fun o e => (sb.2 a hne).trans e⟩ sb,
    fun s Q E st k => next_stop hh st.1 st.2 (by simp) fun h' x kk z => k h' x (fun c o hc q => kk c o hc q) z⟩
theorem enum_new (b : Bool) (a : Addr) (o : Obj) (xs : Array Value) :
    Meets (Builtin.«enumerate.__new__» ⟨[.type "enumerate", .ref a], []⟩) (fun _ R s => s.heap.get? a = some o ∧ SqO b s.heap a xs ∧
      R (.ok (.ret (.ref (s.heap.push { cls := .type (cN b), data := .fields #[.ref a, .int 0 0] }).objs.size)))
        { s with heap := (s.heap.push { cls := .type (cN b), data := .fields #[.ref a, .int 0 0] }).push { cls := .type "enumerate", data := .fields #[.none, .bool false, .ref s.heap.objs.size, rawInt 0, .none, .none] } }) :=
  .of_wp fun prog w A R s h => by
    obtain ⟨hp, g, d, tk, os⟩ := s; obtain ⟨ho, sq, h⟩ := h
    have sub := sub_enumerate
    have sq' : SqO b (Shared.heap ⟨hp, g, d, tk, os⟩) a xs := sq
    wp_walk using AutoSeq1.wpAny_loadPart' ho; refine wpAny_stack_any fun st => wpAny_pure ?_
    split
    case h_1 c _ _ _ _ _ =>
      cases (c == Value.type "enumerate") <;> (wp_walk using AutoSeq1.wpAny_loadPart' ho, iter_of sq'; exact ⟨_, rfl, h⟩)
    all_goals (wp_walk using AutoSeq1.wpAny_loadPart' ho, iter_of sq'; exact ⟨_, rfl, h⟩)

theorem call_enum {prog : Program} {w : World} {A : Around} {E : Value → Shared → Prop} {s : Shared} {b : Bool} {a : Addr} {xs : Array Value} {P : Value → Shared → Prop} (sq : SqO b s.heap a xs)
    (h : ∀ h' e it, s.heap.objs.size ≤ e → s.heap.objs.size ≤ it → e ≠ it → IsEnum h' e it 0 .none → RIt b h' it a 0 → (∀ c o, s.heap.get? c = some o → h'.get? c = some o) → P (.ref e) { s with heap := h' }) :
    wpAny (model prog w) A (call (.type "enumerate") [.ref a]) P E s := by
  obtain ⟨o, n, ho, _⟩ := sq.ob
  refine callType_new F.called_enumerate (by decide) (F.typeCall_enumerate_1 _) (F.newCall_enumerate_1 _) (fun obj => F.args_object_init_2 obj _) F.entry_enumerate_new (enum_new b a o xs) ⟨ho, sq, ⟨_, Heap.get?_push_size _ rfl, rfl⟩, ?_⟩
  refine h _ _ _ ?_ (Nat.le_refl _) ?_ (Heap.get?_push_size _ rfl) (Heap.get?_push_of_some _ (Heap.get?_push_size _ rfl)) fun c o e => Heap.get?_push_of_some _ (Heap.get?_push_of_some _ e)
  · rw [Heap.size_push]; exact Nat.le_succ _
  · rw [Heap.size_push]; exact Nat.succ_ne_self _
structure Sep (z TI TO i1 i2 : Addr) (f1 f2 : List Addr) : Prop where
  all : [z, TI, TO, i1, i2].Nodup
  z1 : z ∉ f1
  t1 : TO ∉ f1
  o1 : i2 ∉ f1
  z2 : z ∉ f2
  t2 : TO ∉ f2
  o2 : i1 ∉ f2
section
variable {prog : Program} {w : World} {A : Around} {E : Value → Shared → Prop} {s : Shared} {z TI TO i1 i2 : Addr} {f1 f2 : List Addr} {n1 n2 k : Nat} {P1 P2 : Nat → Value → Prop} {S1 S2 : Nat → Heap → Prop} {a b : Value}
theorem zip_step (S : Sep z TI TO i1 i2 f1 f2) (D1 : Draws prog w A i1 f1 n1 P1 S1) (D2 : Draws prog w A i2 f2 n2 P2 S2) {Q : Value → Shared → Prop}
    (hz : IsZip s.heap z TI TO .none) (hI : IsPair s.heap TI (.ref i1) (.ref i2)) (hO : IsPair s.heap TO a b) (d1 : S1 k s.heap) (d2 : S2 k s.heap) (l1 : k < n1) (l2 : k < n2)
    (h : ∀ x y h' tk, P1 k x → P2 k y → IsZip h' z TI TO (rawInt s.heap.objs.size) → IsPair h' TO x y → S1 (k + 1) h' → S2 (k + 1) h' → IsPair h' s.heap.objs.size x y →
      (∀ c o, c ∉ [z, TO, i1, i2] → s.heap.get? c = some o → h'.get? c = some o) → Q (.ref s.heap.objs.size) { s with heap := h', toks := tk }) :
    wpAny (model prog w) A (Builtin.«zip.__next__» ⟨[.ref z], []⟩) (fun r s' => ∃ v, r = .done (.ret v) ∧ Q v s') E s := by
  have nd := S.all
  simp only [List.nodup_cons, List.mem_cons, List.not_mem_nil, or_false, not_or] at nd
  obtain ⟨⟨zI, zO, z1, z2⟩, ⟨IO, I1, I2⟩, ⟨O1, O2⟩, n12, _⟩ := nd
  refine rf 2 hz rfl rfl (rf 3 hz rfl rfl (wpAny_bind (wpAny_seqItems hI rfl (wpAny_bind (rf 0 hz rfl rfl (wpAny_pure ?_))))))
  simp only [if_true]
  refine wpAny_bind (wpAny_rule (rf 4 hz rfl rfl (wpAny_bind (wpAny_setField_rec hz (show 0 < 5 by decide) fun ha za sa => wpAny_bind ?_))))
  have za' : IsZip ha z TI TO .ellipsis := za; simp only [List.zipIdx_cons, List.zipIdx_nil, List.forIn_cons, List.forIn_nil]
  refine wpAny_bind (wpAny_bind (wpAny_onRaise (wpAny_bind (D1.item k _ _ _ l1 (D1.frame _ _ _ d1 fun c hc o e => (sa.2 c fun q => S.z1 (q ▸ hc)).trans e) fun x hb tb px db sb => wpAny_pure ?_))))
  have Ob : IsPair hb TO a b := (sb.2 TO O1).trans ((sa.2 TO (Ne.symm zO)).trans hO)
  refine wpAny_bind (wpAny_seqItems Ob rfl (wpAny_bind (wpAny_updateSeq_pair Ob fun hc Oc sc => wpAny_bind (wpAny_letGo (wpAny_pure ?_)))))
  have Oc' : IsPair hc TO x b := Oc
  have st2 : S2 k hc := D2.frame _ _ _ d2 fun c hm o e => (sc.2 c fun q => S.t2 (q ▸ hm)).trans ((sb.2 c fun q => S.o2 (q ▸ hm)).trans ((sa.2 c fun q => S.z2 (q ▸ hm)).trans e))
  refine wpAny_bind (wpAny_bind (wpAny_onRaise (wpAny_bind (D2.item k _ _ _ l2 st2 fun y hd td py dd sd => wpAny_pure ?_))))
  have Od : IsPair hd TO x b := (sd.2 TO O2).trans Oc'
  refine wpAny_bind (wpAny_seqItems Od rfl (wpAny_bind (wpAny_updateSeq_pair Od fun he Oe se => wpAny_bind (wpAny_letGo (wpAny_pure (wpAny_pure ?_))))))
  have Oe' : IsPair he TO x y := Oe
  refine wpAny_bind (wpAny_seqItems Oe' rfl (wpAny_bind (wpAny_newTuple (wpAny_bind ?_))))
  have sz : he.objs.size = s.heap.objs.size := by rw [se.1, sd.1, sc.1, sb.1, sa.1]
  have ze : IsZip he z TI TO .ellipsis := (se.2 z zO).trans ((sd.2 z z2).trans ((sc.2 z zO).trans ((sb.2 z z1).trans za')))
  have zn : he.objs.size ≠ z := Nat.ne_of_gt (Heap.lt_size ze)
  unfold Builtin.SmallTypes.ownedTupleHandOut; refine wpAny_bind (wpAny_setField_rec (Heap.get?_push_of_some _ ze) (show 0 < 5 by decide) fun hf zf sf => wpAny_setField_rec zf (show 1 < 5 by decide) fun hg zg sg => wpAny_pure ⟨_, rfl, ?_⟩)
  have up : ∀ c o, c ≠ z → he.get? c = some o → hg.get? c = some o := fun c o q e => (sg.2 c q).trans ((sf.2 c q).trans (Heap.get?_push_of_some _ e))
  have new : IsPair hg he.objs.size x y := (sg.2 _ zn).trans ((sf.2 _ zn).trans (Heap.get?_push_size _ rfl))
  have zg' : IsZip hg z TI TO (rawInt he.objs.size) := zg
  rw [sz] at new zg'
  show Q (.ref he.objs.size) _
  rw [sz]
  refine h x y hg td px py zg' (up _ _ (Ne.symm zO) Oe') ?_ ?_ new fun c o hc e => ?_
  · exact D1.frame _ _ _ db fun c hm o e => up c o (fun q => S.z1 (q ▸ hm)) ((se.2 c fun q => S.t1 (q ▸ hm)).trans ((sd.2 c fun q => S.o1 (q ▸ hm)).trans ((sc.2 c fun q => S.t1 (q ▸ hm)).trans e)))
  · exact D2.frame _ _ _ dd fun c hm o e => up c o (fun q => S.z2 (q ▸ hm)) ((se.2 c fun q => S.t2 (q ▸ hm)).trans e)
  · simp only [List.mem_cons, List.not_mem_nil, or_false, not_or] at hc
    obtain ⟨c1, c2, c3, c4⟩ := hc
    exact up c o c1 ((se.2 c c2).trans ((sd.2 c c4).trans ((sc.2 c c2).trans ((sb.2 c c3).trans ((sa.2 c c1).trans e)))))
end
end Own
end
section
set_option maxHeartbeats 4000001
namespace Own
open PySem PySem.Spec PyProof.Rows
section
variable {prog : Program} {w : World} {A : Around} {E : Value → Shared → Prop} {s : Shared} {z TI TO i1 i2 : Addr} {f1 f2 : List Addr} {n1 n2 k : Nat} {P1 P2 : Nat → Value → Prop} {S1 S2 : Nat → Heap → Prop} {a b : Value}
theorem zip_stop (S : Sep z TI TO i1 i2 f1 f2) (D1 : Draws prog w A i1 f1 n1 P1 S1) {Q : Fin → Shared → Prop} (hz : IsZip s.heap z TI TO .none) (hI : IsPair s.heap TI (.ref i1) (.ref i2)) (d1 : S1 n1 s.heap)
    (h : ∀ h' x, (∀ c o, c ∉ [z, TO, i1, i2] → s.heap.get? c = some o → h'.get? c = some o) → (∃ o, h'.get? x = some o ∧ o.cls = .type "StopIteration") → E (.ref x) { s with heap := h' }) : wpAny (model prog w) A (Builtin.«zip.__next__» ⟨[.ref z], []⟩) Q E s := by
  have nd := S.all
  simp only [List.nodup_cons, List.mem_cons, List.not_mem_nil, or_false, not_or] at nd
  obtain ⟨⟨zI, zO, z1, z2⟩, ⟨IO, I1, I2⟩, ⟨O1, O2⟩, n12, _⟩ := nd
  refine rf 2 hz rfl rfl (rf 3 hz rfl rfl (wpAny_bind (wpAny_seqItems hI rfl (wpAny_bind (rf 0 hz rfl rfl (wpAny_pure ?_))))))
  simp only [if_true]
  refine wpAny_bind (wpAny_rule (rf 4 hz rfl rfl (wpAny_bind (wpAny_setField_rec hz (show 0 < 5 by decide) fun ha za sa => wpAny_bind ?_))))
  have za' : IsZip ha z TI TO .ellipsis := za; simp only [List.zipIdx_cons, List.zipIdx_nil, List.forIn_cons, List.forIn_nil]
  refine wpAny_bind (wpAny_bind (wpAny_onRaise (wpAny_bind (D1.done _ _ _ (D1.frame _ _ _ d1 fun c hc o e => (sa.2 c fun q => S.z1 (q ▸ hc)).trans e) fun hb x kb ⟨ox, ex, cx⟩ => ?_))))
  have zb : IsZip hb z TI TO .ellipsis := kb z _ z1 za'
  have xz : x ≠ z := fun q => by rw [q, zb] at ex; cases ex; exact absurd (show Value.type "zip" = Value.type "StopIteration" from cx) (by decide)
  refine wpAny_setField_rec zb (show 0 < 5 by decide) fun hc _ sc => h hc x (fun c o hm e => ?_) ⟨ox, (sc.2 x xz).trans ex, cx⟩
  simp only [List.mem_cons, List.not_mem_nil, or_false, not_or] at hm
  exact (sc.2 c hm.1).trans (kb c o hm.2.2.1 ((sa.2 c hm.1).trans e))
end
theorem zip_new (b1 b2 : Bool) (a1 a2 : Addr) (xs ys : Array Value) : Meets (Builtin.«zip.__new__» ⟨[.type "zip", .ref a1, .ref a2], []⟩) (fun _ R s => SqO b1 s.heap a1 xs ∧ SqO b2 s.heap a2 ys ∧
    ∀ h' z, (∃ TI TO i1 i2, [z, TI, TO, i1, i2].Nodup ∧ (∀ c ∈ [z, TI, TO, i1, i2], s.heap.objs.size ≤ c) ∧ IsZip h' z TI TO .none ∧ IsPair h' TI (.ref i1) (.ref i2) ∧ IsPair h' TO .none .none ∧ RIt b1 h' i1 a1 0 ∧ RIt b2 h' i2 a2 0) →
      (∀ c o, s.heap.get? c = some o → h'.get? c = some o) → R (.ok (.ret (.ref z))) { s with heap := h' }) :=
  .of_wp fun prog w A R s h => by
    obtain ⟨hp, g, d, tk, os⟩ := s; obtain ⟨q1, q2, h⟩ := h
    have sub := sub_zip
    have r1 : SqO b1 (Shared.heap ⟨hp, g, d, tk, os⟩) a1 xs := q1
    have r2 : SqO b2 (Shared.heap ⟨hp.push { cls := .type (cN b1), data := .fields #[.ref a1, .int 0 0] }, g, d, tk, os⟩) a2 ys := q2.mv fun o e => Heap.get?_push_of_some _ e
    wp_walk using iter_of r1, iter_of r2
    refine ⟨_, rfl, h _ _ ⟨_, _, _, _, ?_, ?_, Heap.get?_push_size _ rfl, Heap.get?_push_of_some _ (Heap.get?_push_of_some _ (Heap.get?_push_size _ rfl)), Heap.get?_push_of_some _ (Heap.get?_push_size _ rfl),
      Heap.get?_push_of_some _ (Heap.get?_push_of_some _ (Heap.get?_push_of_some _ (Heap.get?_push_of_some _ (Heap.get?_push_size _ rfl)))), Heap.get?_push_of_some _ (Heap.get?_push_of_some _ (Heap.get?_push_of_some _ (Heap.get?_push_size _ rfl)))⟩ fun c o e => ?_⟩
    · simp only [Heap.size_push, List.nodup_cons, List.mem_cons, List.not_mem_nil, or_false, not_or]
      simp <;> lia
    · simp only [Heap.size_push, List.mem_cons, List.not_mem_nil, or_false]
      intro c hc
      have : hp.objs.size ≤ c := by lia
      exact this
    · exact Heap.get?_push_of_some _ (Heap.get?_push_of_some _ (Heap.get?_push_of_some _ (Heap.get?_push_of_some _ (Heap.get?_push_of_some _ e))))
end Own
end
section
set_option maxHeartbeats 4000001
namespace L2
open PySem PySem.Spec PyProof.Rows Own
section
variable {X : Cx} {pins : List (Addr × Obj)} {σ : St} {H : Hp} {s : Shared} {h' : Heap}
theorem Inv.spunN {fp : List Addr} {T : Addr} {o : HO} {t' : Nat} (I : Inv X pins σ H s) (k : ∀ b o, b ∉ fp → s.heap.get? b = some o → h'.get? b = some o) (hf : ∀ b ∈ fp, FpOk X pins H b) (hT : s.heap.objs.size ≤ T)
    (new : ObjOk X.prog X.w (upd H T o) h' T o) : Inv X pins σ (upd H T o) { s with heap := h', toks := t' } := by
  have hn : H T = none := I.hok.fresh hT
  have neT : ∀ b u, s.heap.get? b = some u → b ≠ T := fun b u e => Nat.ne_of_lt (Nat.lt_of_lt_of_le (Heap.lt_size e) hT)
  have nfp : ∀ b u, H b = some u → b ∉ fp := fun b u e hb => by rw [(hf b hb).1] at e; cases e
  refine I.step (g' := s.gens) (d' := s.drawn) (ch := fp) (fun b hb => ?_) (fun b o _ _ hc e _ => k b o hc e) (fun b o _ _ hc e _ => ⟨o.slots, k b o hc e⟩) (fun b o _ e n => by rw [upd_ne (neT b o e)]; exact n)
    (fun b o hc e => ⟨o, k b o hc e⟩) (fun b xs e => by rw [upd_ne (ne_of_none e hn)]; exact e) (fun b o u e => by rw [upd_ne (ne_of_none e hn)]; exact e) (fun b ps e => ⟨#[], by rw [upd_ne (ne_of_none e hn), e]; simp⟩) (fun m hm => ?_) (fun b u e => ?_) I.bare
  · obtain ⟨f0, f1, f2, f3, f4, f5⟩ := hf b hb
    exact ⟨f3, f1, f4, f5⟩
  · obtain ⟨o, es, ep, ho, r⟩ := hm
    exact ⟨o, es, ep, k _ o (fun hb => (hf _ hb).2.1 rfl) ho, r⟩
  · by_cases hb : b = T
    · subst hb; rw [upd_same] at e; cases e; exact new
    · rw [upd_ne hb] at e
      refine (I.hok b u e).stay (fun c v hc q => k c v ?_ q) (fun c q => by rw [upd_ne (ne_of_none q hn)]; exact q) fun c xs q => by rw [upd_ne (ne_of_none q hn)]; exact q
      rcases hc with z | z
      · rw [z]; exact nfp b u e
      · exact nfp c _ z
theorem Inv.spun {fp : List Addr} {t' : Nat} (I : Inv X pins σ H s) (k : ∀ b o, b ∉ fp → s.heap.get? b = some o → h'.get? b = some o) (hf : ∀ b ∈ fp, FpOk X pins H b) : Inv X pins σ H { s with heap := h', toks := t' } := by
  have nfp : ∀ b u, H b = some u → b ∉ fp := fun b u e hb => by rw [(hf b hb).1] at e; cases e
  refine I.step (g' := s.gens) (d' := s.drawn) (ch := fp) (fun b hb => ?_) (fun b o _ _ hc e _ => k b o hc e) (fun b o _ _ hc e _ => ⟨o.slots, k b o hc e⟩) (fun b o _ e n => n)
    (fun b o hc e => ⟨o, k b o hc e⟩) (fun b xs e => e) (fun b o u e => e) (fun b ps e => ⟨#[], by rw [e]; simp⟩) (fun m hm => ?_) (fun b u e => ?_) I.bare
  · obtain ⟨f0, f1, f2, f3, f4, f5⟩ := hf b hb
    exact ⟨f3, f1, f4, f5⟩
  · obtain ⟨o, es, ep, ho, r⟩ := hm
    exact ⟨o, es, ep, k _ o (fun hb => (hf _ hb).2.1 rfl) ho, r⟩
  · refine (I.hok b u e).stay (fun c v hc q => k c v ?_ q) (fun c q => q) fun c xs q => q
    rcases hc with z | z
    · rw [z]; exact nfp b u e
    · exact nfp c _ z
end
def SqB : Bool → PySem.W.Frag → Hp → Addr → List V → Prop
  | true, K, H, a, xs => SqL K H a xs
  | false, K, H, a, xs => SqT K H a xs
section
variable {X : Cx} {pins : List (Addr × Obj)} {σ : St} {H : Hp} {s : Shared} {a c : Addr} {xs ys : List V} {b : Bool}
theorem Inv.sq (I : Inv X pins σ H s) (h : SqB b X.K H a xs) : ∃ its : List Value, Vals xs its ∧ SqO b s.heap a its.toArray := by
  cases b
  · obtain ⟨its, r, p, z⟩ := I.tuple h
    exact ⟨its, r, p⟩
  · obtain ⟨its, r, p, z⟩ := I.list h
    exact ⟨its, r, p.isList⟩
theorem Inv.sq_inj (I : Inv X pins σ H s) (h : SqB b X.K H a xs) (h' : SqB b X.K H a ys) : xs = ys := by
  cases b
  · exact I.tuple_inj h h'
  · exact I.list_inj h h'
theorem Inv.sq_ne (I : Inv X pins σ H s) (h : SqB b X.K H a xs) (f : FpOk X pins H c) : c ≠ a := by
  rintro rfl
  have inK : ∀ o, X.K.lookup c = some o → False := fun o e => by
    have e1 := I.ok.mod.kin c o e
    rcases f.2.2.2.1 with z | z
    · exact I.ok.noex c o e1 z
    · exact absurd (Nat.lt_of_lt_of_le (Heap.lt_size e1) (Nat.le_trans I.ok.bsz z)) (Nat.lt_irrefl _)
  cases b <;>
  · rcases h with (h | ⟨o, h⟩) | ⟨o, _, _, e, _⟩
    · rw [f.1] at h; cases h
    · rw [f.1] at h; cases h
    · exact inK o e
end
def Pr (v u : V) (H : Hp) (x : V) (H' : Hp) : Prop := ∃ T, H T = none ∧ x = .ref T ∧ H' = upd H T (.tup [v, u])
theorem pair_ok {P : Program} {w : World} {H : Hp} {h : Heap} {T : Addr} {v u : V} {a b : Value} (e : IsPair h T a b) (rv : RelV v a) (ru : RelV u b) : ObjOk P w (upd H T (.tup [v, u])) h T (.tup [v, u]) :=
  ⟨show 2 ≤ sizeLine by decide, [a, b], .cons rv (.cons ru .nil), ⟨_, e, rfl, _, rfl, rfl⟩⟩
def Ite (K : PySem.W.Frag) (b : Bool) (a : Addr) : It :=
  ⟨fun i H => ∃ xs x, SqB b K H a xs ∧ xs[i]? = some x, fun i H x H' => ∃ y, (∀ xs, SqB b K H a xs → xs[i]? = some y) ∧ Pr (.int i) y H x H', fun i H => ∃ xs, SqB b K H a xs ∧ xs.length = i⟩
theorem turn_enum {P : Program} {w : World} {K : PySem.W.Frag} {es : List Expr} {k1} {p1 : Pos} (b : Bool) (a e it : Addr) (hne : e ≠ it) : Turn P w K (.Tuple es k1 p1) (Ite K b a) [e, it] e (fun i h => (∃ old, IsEnum h e it i old) ∧ RIt b h it a i) where
  mem := List.mem_cons_self
  obj := fun i h ⟨⟨old, he⟩, hi⟩ c hc => by
    rcases List.mem_cons.mp hc with q | q
    · rw [q]; exact ⟨_, he, fun v z => by cases z⟩
    · rw [List.mem_singleton.mp q]; exact ⟨_, hi, fun v z => by cases z⟩
  keep := fun i h h' ⟨⟨old, he⟩, hi⟩ kk => ⟨⟨old, kk e (by simp) _ he⟩, kk it (by simp) _ hi⟩
  item := by
    intro X hP hw hK hc i pins s σ H E I hf ⟨⟨old, he⟩, hi⟩ ⟨xs, x, hq, hx⟩
    subst hP hw hK
    obtain ⟨its, rv, p⟩ := I.sq hq
    obtain ⟨u, hu, ru⟩ := rv.get hx
    have hlt : i < its.toArray.size := by simpa using (List.getElem?_eq_some_iff.mp hu).1
    refine wpAny_pyNext_enum_itemD (draws (prog := X.prog) (w := X.w) (A := X.A.in1) (I.ok.hd hc) b it a its.toArray (p.ne hi)) he ⟨hi, p⟩ hlt hne (by simp [hne, I.sq_ne hq (hf e (by simp))]) fun v h1 tk hv ho hs hT _ hk => ?_
    obtain rfl : u = v := Option.some.inj (hu.symm.trans (by simpa using hv))
    refine ⟨_, rfl, wpAny_letOwnedTupleGo_enum ho fun h2 he2 s2 => ?_⟩
    have nT : s.heap.objs.size ≠ e := Nat.ne_of_gt (Heap.lt_size he)
    have nI : s.heap.objs.size ≠ it := Nat.ne_of_gt (Heap.lt_size hi)
    refine ⟨.ref s.heap.objs.size, _, I.spunN (fp := [e, it]) (fun c o hm q => ?_) hf (Nat.le_refl _) (pair_ok (v := .int i) (u := x) ((s2.2 _ nT).trans hT) ⟨tk, rfl⟩ ru), rfl, ⟨x, fun ys hy => by rw [I.sq_inj hy hq]; exact hx, _, I.fresh, rfl, rfl⟩, ⟨⟨_, he2⟩, (s2.2 it (Ne.symm hne)).trans hs.1⟩, fun c hm => ?_⟩
    · have c1 : c ≠ e := fun z => hm (by simp [z])
      exact (s2.2 c c1).trans (hk c o c1 (fun z => hm (by simp [z])) q)
    · rw [upd_ne, (hf c hm).1]
      rintro rfl
      rcases List.mem_cons.mp hm with z | z
      · exact nT z
      · exact nI (List.mem_singleton.mp z)
  done := by
    intro X hP hw hK hc i pins s σ H E I hf ⟨⟨old, he⟩, hi⟩ ⟨xs, hq, hx⟩
    subst hP hw hK
    obtain ⟨its, rv, p⟩ := I.sq hq
    have hz : i = its.toArray.size := by rw [List.size_toArray, ← rv.length, hx]
    refine wpAny_pyNext_enum_endD (draws (prog := X.prog) (w := X.w) (A := X.A.in1) (I.ok.hd hc) b it a its.toArray (p.ne hi)) he ⟨by rw [← hz]; exact hi, p⟩ fun h' eb => ⟨rfl, I.spun (t' := s.toks) (fp := [e, it]) (fun c o hm q => eb c o (fun z => hm (by simp [z])) q) hf⟩
  self := fun _ _ _ _ _ ⟨⟨_, he⟩, _⟩ h => wpAny_pyIter_enum he h
def iEnum (K : PySem.W.Frag) (b : Bool) (ta : TA) : TI := fun σ H R => ta σ H fun vs H1 => ∃ a xs, vs = [.ref a] ∧ SqB b K H1 a xs ∧ R (Ite K b a) H1
theorem pi_enum {X : Cx} {a : Expr} {ta : TA} {p pos p1 : Pos} {es : List Expr} {k1} (b : Bool) (hg : Gl X "enumerate") (hm : X.mg "enumerate" = none) (ha : PA X [a] ta) (hs : starEach [a] X.env = [(false, eval a X.env)] := by rfl) :
    PI X (.Tuple es k1 p1) (.Call (.Name "enumerate" p) [a] [] pos) (iEnum X.K b ta) := by
  intro pins s σ H R I h
  refine Call_ (ld_blt I hg hm (u := .type "enumerate") (by rfl) (PyProof.Rows.callWith_type1 (thn (ha pos pins s σ H _ I h) fun us s1 ⟨vs, H1, I1, r1, q1⟩ => ?_) hs rfl))
  obtain ⟨a', xs, rfl, hq, q⟩ := q1
  obtain ⟨u, rfl, ru⟩ := r1.one
  cases ru
  obtain ⟨its, rv, pl⟩ := I1.sq hq
  refine call_enum pl fun h' e it l1 l2 ne he hi hk => wpAny_pyIter_enum he ⟨_, [e, it], _, _, H1, rfl, I1.kept (t' := s1.toks) hk, turn_enum b a' e it ne, ⟨⟨_, he⟩, hi⟩, fun c hc => ?_, q⟩
  have hc' : s1.heap.objs.size ≤ c := by
    rcases List.mem_cons.mp hc with z | z
    · rw [z]; exact l1
    · rw [List.mem_singleton.mp z]; exact l2
  exact I1.fpOk hc' (I1.hok.fresh hc')
def Itz (K : PySem.W.Frag) (b1 b2 : Bool) (a1 a2 : Addr) : It :=
  ⟨fun i H => ∃ xs ys x y, SqB b1 K H a1 xs ∧ SqB b2 K H a2 ys ∧ xs[i]? = some x ∧ ys[i]? = some y, fun i H v H' => ∃ x y, (∀ xs, SqB b1 K H a1 xs → xs[i]? = some x) ∧ (∀ ys, SqB b2 K H a2 ys → ys[i]? = some y) ∧ Pr x y H v H',
   fun i H => ∃ xs, SqB b1 K H a1 xs ∧ xs.length = i⟩
theorem turn_zip {P : Program} {w : World} {K : PySem.W.Frag} {es : List Expr} {k1} {p1 : Pos} (b1 b2 : Bool) (a1 a2 z TI TO i1 i2 : Addr) (nd : [z, TI, TO, i1, i2].Nodup) :
    Turn P w K (.Tuple es k1 p1) (Itz K b1 b2 a1 a2) [z, TI, TO, i1, i2] z (fun i h => IsZip h z TI TO .none ∧ IsPair h TI (.ref i1) (.ref i2) ∧ (∃ a b, IsPair h TO a b) ∧ RIt b1 h i1 a1 i ∧ RIt b2 h i2 a2 i) where
  mem := List.mem_cons_self
  obj := fun i h ⟨hz, hI, ⟨a, b, hO⟩, h1, h2⟩ c hc => by
    simp only [List.mem_cons, List.not_mem_nil, or_false] at hc
    rcases hc with rfl | rfl | rfl | rfl | rfl
    · exact ⟨_, hz, fun v q => by cases q⟩
    · exact ⟨_, hI, fun v q => by cases q⟩
    · exact ⟨_, hO, fun v q => by cases q⟩
    · exact ⟨_, h1, fun v q => by cases q⟩
    · exact ⟨_, h2, fun v q => by cases q⟩
  keep := fun i h h' ⟨hz, hI, ⟨a, b, hO⟩, h1, h2⟩ kk => ⟨kk z (by simp) _ hz, kk TI (by simp) _ hI, ⟨a, b, kk TO (by simp) _ hO⟩, kk i1 (by simp) _ h1, kk i2 (by simp) _ h2⟩
  item := by
    intro X hP hw hK hc i pins s σ H E I hf ⟨hz, hI, ⟨a, b, hO⟩, h1, h2⟩ ⟨xs, ys, x, y, q1, q2, hx, hy⟩
    subst hP hw hK
    obtain ⟨u1, r1, p1⟩ := I.sq q1
    obtain ⟨u2, r2, p2⟩ := I.sq q2
    obtain ⟨v1, e1, rx⟩ := r1.get hx
    obtain ⟨v2, e2, ry⟩ := r2.get hy
    have nd' := nd
    simp only [List.nodup_cons, List.mem_cons, List.not_mem_nil, or_false, not_or] at nd'
    obtain ⟨⟨zI, zO, z1, z2⟩, ⟨IO, I1, I2⟩, ⟨O1, O2⟩, n12, _⟩ := nd'
    have na1 : ∀ c ∈ [z, TI, TO, i1, i2], c ≠ a1 := fun c hm => I.sq_ne q1 (hf c hm)
    have na2 : ∀ c ∈ [z, TI, TO, i1, i2], c ≠ a2 := fun c hm => I.sq_ne q2 (hf c hm)
    have S : Sep z TI TO i1 i2 [i1, a1] [i2, a2] := ⟨nd, by simp [z1, na1 z (by simp)], by simp [O1, na1 TO (by simp)], by simp [Ne.symm n12, na1 i2 (by simp)], by simp [z2, na2 z (by simp)], by simp [O2, na2 TO (by simp)], by simp [n12, na2 i1 (by simp)]⟩
    have hd := I.ok.hd hc
    have D1 := draws (prog := X.prog) (w := X.w) (A := X.A.in1) hd b1 i1 a1 u1.toArray (p1.ne h1)
    have D2 := draws (prog := X.prog) (w := X.w) (A := X.A.in1) hd b2 i2 a2 u2.toArray (p2.ne h2)
    have tyz : s.TypeIs (.ref z) "zip" := ⟨_, hz, rfl⟩
    unfold pyNext
    refine wpAny_bind (wpAny_attempt (wpAny_callSpecial?_slot (name := "__next__") tyz F.slot_zip_next (wpAny_call_entry F.slot_zip_next tyz F.entry_zip_next (zip_step S D1 D2 hz hI hO ⟨h1, p1⟩ ⟨h2, p2⟩ (by simpa using (List.getElem?_eq_some_iff.mp e1).1) (by simpa using (List.getElem?_eq_some_iff.mp e2).1)
      fun w1 w2 h' tk hw1 hw2 zh Oh d1 d2 new hk => wpAny_pure ?_) (F.args_zip_next_1 _))))
    obtain rfl : v1 = w1 := Option.some.inj (e1.symm.trans (by simpa using hw1))
    obtain rfl : v2 = w2 := Option.some.inj (e2.symm.trans (by simpa using hw2))
    refine ⟨_, rfl, wpAny_letOwnedTupleGo_zip zh fun h3 z3 s3 => ?_⟩
    have nz : s.heap.objs.size ≠ z := Nat.ne_of_gt (Heap.lt_size hz)
    have far : ∀ c ∈ [z, TI, TO, i1, i2], c ≠ s.heap.objs.size := fun c hm => by
      simp only [List.mem_cons, or_false, List.not_mem_nil] at hm
      rcases hm with rfl | rfl | rfl | rfl | rfl
      · exact Nat.ne_of_lt (Heap.lt_size hz)
      · exact Nat.ne_of_lt (Heap.lt_size hI)
      · exact Nat.ne_of_lt (Heap.lt_size hO)
      · exact Nat.ne_of_lt (Heap.lt_size h1)
      · exact Nat.ne_of_lt (Heap.lt_size h2)
    refine ⟨.ref s.heap.objs.size, _, I.spunN (fp := [z, TI, TO, i1, i2]) (fun c o hm q => ?_) hf (Nat.le_refl _) (pair_ok ((s3.2 _ nz).trans new) rx ry), rfl, ⟨x, y, fun l hl => by rw [I.sq_inj hl q1]; exact hx, fun l hl => by rw [I.sq_inj hl q2]; exact hy, _, I.fresh, rfl, rfl⟩,
      ⟨z3, (s3.2 _ (Ne.symm zI)).trans (hk TI _ (by simp [Ne.symm zI, IO, I1, I2]) hI), ⟨_, _, (s3.2 _ (Ne.symm zO)).trans Oh⟩, (s3.2 _ (Ne.symm z1)).trans d1.1, (s3.2 _ (Ne.symm z2)).trans d2.1⟩, fun c hm => by rw [upd_ne (far c hm), (hf c hm).1]⟩
    simp only [List.mem_cons, List.not_mem_nil, or_false, not_or] at hm
    exact (s3.2 c hm.1).trans (hk c o (by simp [hm]) q)
  done := by
    intro X hP hw hK hc i pins s σ H E I hf ⟨hz, hI, ⟨a, b, hO⟩, h1, h2⟩ ⟨xs, q1, hx⟩
    subst hP hw hK
    obtain ⟨u1, r1, p1⟩ := I.sq q1
    have nd' := nd
    simp only [List.nodup_cons, List.mem_cons, List.not_mem_nil, or_false, not_or] at nd'
    obtain ⟨⟨zI, zO, z1, z2⟩, ⟨IO, I1, I2⟩, ⟨O1, O2⟩, n12, _⟩ := nd'
    have na1 : ∀ c ∈ [z, TI, TO, i1, i2], c ≠ a1 := fun c hm => I.sq_ne q1 (hf c hm)
    have S : Sep z TI TO i1 i2 [i1, a1] [i2] := ⟨nd, by simp [z1, na1 z (by simp)], by simp [O1, na1 TO (by simp)], by simp [Ne.symm n12, na1 i2 (by simp)], by simp [z2], by simp [O2], by simp [n12]⟩
    have hsz : i = u1.toArray.size := by rw [List.size_toArray, ← r1.length, hx]
    have tyz : s.TypeIs (.ref z) "zip" := ⟨_, hz, rfl⟩
    unfold pyNext
    refine wpAny_bind (wpAny_attempt (wpAny_callSpecial?_slot (name := "__next__") tyz F.slot_zip_next (wpAny_call_entry F.slot_zip_next tyz F.entry_zip_next
      (zip_stop S (draws (prog := X.prog) (w := X.w) (A := X.A.in1) (I.ok.hd hc) b1 i1 a1 u1.toArray (p1.ne h1)) hz hI ⟨by rw [← hsz]; exact h1, p1⟩ fun h' x hk ⟨o, eo, co⟩ => ?_) (F.args_zip_next_1 _))))
    refine wpAny_bind (wpAny_isInstance (T := "StopIteration") (b := true) ⟨o, eo, co⟩ isSubtype_stop (wpAny_pure ⟨rfl, I.spun (t' := s.toks) (fp := [z, TI, TO, i1, i2]) (fun c o hm q => hk c o ?_ q) hf⟩))
    simp only [List.mem_cons, List.not_mem_nil, or_false, not_or] at hm ⊢
    exact ⟨hm.1, hm.2.2.1, hm.2.2.2.1, hm.2.2.2.2⟩
  self := fun _ _ _ _ _ st h => wpAny_pyIter_zip st.1 h
def iZip (K : PySem.W.Frag) (b1 b2 : Bool) (ta : TA) : TI := fun σ H R => ta σ H fun vs H1 => ∃ a1 a2 xs ys, vs = [.ref a1, .ref a2] ∧ SqB b1 K H1 a1 xs ∧ SqB b2 K H1 a2 ys ∧ R (Itz K b1 b2 a1 a2) H1
theorem pi_zip {X : Cx} {a b : Expr} {ta : TA} {p pos p1 : Pos} {es : List Expr} {k1} (b1 b2 : Bool) (hg : Gl X "zip") (hm : X.mg "zip" = none) (ha : PA X [a, b] ta) (hs : starEach [a, b] X.env = [(false, eval a X.env), (false, eval b X.env)] := by rfl) (hs2 : starEach [b] X.env = [(false, eval b X.env)] := by rfl) :
    PI X (.Tuple es k1 p1) (.Call (.Name "zip" p) [a, b] [] pos) (iZip X.K b1 b2 ta) := by
  intro pins s σ H R I h
  refine Call_ (ld_blt I hg hm (u := .type "zip") (by rfl) (PyProof.Rows.callWith_type1 (thn (ha pos pins s σ H _ I h) fun us s1 ⟨vs, H1, I1, r1, q1⟩ => ?_) (by rw [hs, hs2]) (by rw [hs2]; rfl)))
  obtain ⟨a1, a2, xs, ys, rfl, hq1, hq2, q⟩ := q1
  obtain ⟨u, v, rfl, ru, rv⟩ := r1.two
  cases ru
  cases rv
  obtain ⟨its, _, pl1⟩ := I1.sq hq1
  obtain ⟨jts, _, pl2⟩ := I1.sq hq2
  refine callType_new F.called_zip (by decide) (F.typeCall_zip_2 _ _) (F.newCall_zip_2 _ _) (fun obj => F.args_object_init_3 obj _ _) F.entry_zip_new (zip_new b1 b2 a1 a2 its.toArray jts.toArray) ⟨pl1, pl2, fun h' z ⟨TI, TO, i1, i2, nd, far, hz, hI, hO, h1, h2⟩ hk => ⟨⟨_, hz, rfl⟩, ?_⟩⟩
  exact wpAny_pyIter_zip hz ⟨_, [z, TI, TO, i1, i2], _, _, H1, rfl, I1.kept (t' := s1.toks) hk, turn_zip b1 b2 a1 a2 z TI TO i1 i2 nd, ⟨hz, hI, ⟨_, _, hO⟩, h1, h2⟩, fun c hc => I1.fpOk (far c hc) (I1.hok.fresh (far c hc)), q⟩
end L2
end
section
set_option maxHeartbeats 4000001
namespace L2
open PySem PySem.Spec PyProof.Rows Own
section
variable {X : Cx}
def CMulW (i j : Int) : Prop := i.natAbs < 2 ^ 20000 ∧ j.natAbs < 2 ^ 20000
theorem bits_le {k : Int} {n : Nat} (h : k.natAbs < 2 ^ n) (hn : 0 < n) : Builtin.Int.intBits k ≤ n := by
  unfold Builtin.Int.intBits
  split
  · exact Nat.zero_le _
  · rename_i hk
    have : Nat.log2 k.natAbs < n := (Nat.log2_lt (fun e => hk (by simp [Int.natAbs_eq_zero.mp e]))).mpr h
    lia
theorem CMulW.ok {i j : Int} (h : CMulW i j) : IntMulOk i j := by
  have h1 := bits_le h.1 (by decide)
  have h2 := bits_le h.2 (by decide)
  have big : Builtin.Int.intTooBig (Builtin.Int.intBits i + Builtin.Int.intBits j) = false := by
    have line : (40000 : Nat) ≤ bitsLine := by decide
    unfold Builtin.Int.intTooBig
    simp
    lia
  unfold IntMulOk
  rw [big]; simp
theorem op_mulW : OpR X (binaryOp .Mult) (rI CMulW fun i j => .int (i * j)) := opI fun _ _ _ _ _ _ _ hc q => mul_int q hc.ok
theorem walkB {prog : Program} {w : World} {A : Around} (hh : A.handled = none) (b : Bool) (I a : Addr) (hne : a ≠ I) (xs : Array Value) :
    Walks prog w A I [I, a] [I] xs.size (fun i v => xs[i]? = some v) (fun i h => (match b with | true => h.IsListIter I a i | false => h.IsTupleIter I a i) ∧ SqO b h a xs) := by
  cases b
  · exact Walks.tuple hh I a hne xs
  · exact Walks.list hh I a hne xs
theorem call_allB (hc : X.calm = true) (b : Bool) : CallR X (.builtin "all") (fun vs H Q => ∃ a bs, vs = [.ref a] ∧ SqB b X.K H a (List.map V.bl bs) ∧ Q (.bl (bs.all id)) H) := by
  intro pins s σ H vs us Q I rv h
  obtain ⟨a, bs, rfl, hq, q⟩ := h
  obtain ⟨u, rfl, ru⟩ := rv.one
  cases ru
  obtain ⟨its, r, p⟩ := I.sq hq
  have hne : a ≠ s.heap.objs.size := by
    obtain ⟨o, n, e, _⟩ := p.ob
    exact Nat.ne_of_lt (Heap.lt_size e)
  have hl : its.length = bs.length := by rw [← r.length, List.length_map]
  refine call_all_walk (iter_of p ⟨s.heap.objs.size, [s.heap.objs.size, a], [s.heap.objs.size], _, _, _, fun i => bs.getD i true, rfl, walkB (show X.A.in1.handled = none from I.ok.hd hc) b _ a hne its.toArray, ?_, ?_, ?_⟩)
  · refine ⟨?_, p.mv fun o e => Heap.get?_push_of_some _ e⟩
    cases b <;> exact ⟨_, Heap.get?_push_size _ rfl, rfl, rfl⟩
  · intro i v s' Q' E' hv hQ
    have hv' : its[i]? = some v := by simpa using hv
    have hi := (List.getElem?_eq_some_iff.mp hv').1
    have e : (List.map V.bl bs)[i]? = some (V.bl (bs.getD i true)) := by
      rw [List.getElem?_map, List.getD_eq_getElem?_getD, List.getElem?_eq_getElem (by lia)]
      rfl
    obtain ⟨u', e', ru⟩ := r.get e
    rw [hv'] at e'
    obtain rfl := Option.some.inj e'
    obtain rfl : v = Value.bool (bs.getD i true) := ru
    exact wpAny_truthy_bool hQ
  · intro h' tk hk
    refine ⟨.bl (bs.all id), H, I.kept (t' := tk) fun c o e => hk c o ?_ (Heap.get?_push_of_some _ e), ?_, q⟩
    · exact fun z => Nat.ne_of_lt (Heap.lt_size e) (List.mem_singleton.mp z)
    · show Value.bool _ = Value.bool _
      congr 1
      rw [List.size_toArray, hl, Bool.eq_iff_iff, List.all_eq_true, List.all_eq_true]
      constructor
      · intro h x hx
        obtain ⟨j, hj, e⟩ := List.getElem_of_mem hx
        have at_j := h j (List.mem_range.mpr hj)
        rw [List.getD_eq_getElem?_getD, List.getElem?_eq_getElem hj] at at_j
        rw [← e]; exact at_j
      · intro h j hj
        rw [List.getD_eq_getElem?_getD, List.getElem?_eq_getElem (List.mem_range.mp hj)]
        exact h _ (List.getElem_mem _)
theorem call_isi : CallR X (.builtin "isinstance") (fun vs H Q => ∃ x T t k, vs = [x, .ty T] ∧ TyOf X.K H x t ∧ PySem.W.kitOne X.K t (.type T) = some k ∧ Q (.bl k) H) := by
  intro pins s σ H vs us Q I rv h
  obtain ⟨x, T, t, k, rfl, ht, hk, q⟩ := h
  obtain ⟨u, v, rfl, ru, rv'⟩ := rv.two
  cases (show v = Value.type T from rv')
  exact isinst_ok I ru ht hk fun tk => ⟨.bl k, H, I.tok tk, rfl, q⟩
theorem all_eq (ns ms : List Int) : ((List.range (min (ns.map V.int).length (ms.map V.int).length)).all (fun j => eqV ((ns.map V.int).getD j .non) ((ms.map V.int).getD j .non)) && (ns.map V.int).length == (ms.map V.int).length) = decide (ns = ms) := by
  rw [Bool.eq_iff_iff, Bool.and_eq_true, List.all_eq_true, decide_eq_true_iff, beq_iff_eq, List.length_map, List.length_map]
  have at' : ∀ (l : List Int) (j : Nat) (h : j < l.length), (l.map V.int).getD j .non = .int l[j] := fun l j h => by
    rw [List.getD_eq_getElem?_getD, List.getElem?_map, List.getElem?_eq_getElem h]; rfl
  constructor
  · rintro ⟨h, e⟩
    refine List.ext_getElem e fun j h1 h2 => ?_
    have := h j (List.mem_range.mpr (by lia))
    rw [at' ns j h1, at' ms j h2] at this
    simpa [eqV] using this
  · rintro rfl
    refine ⟨fun j hj => ?_, rfl⟩
    have hj' : j < ns.length := by have := List.mem_range.mp hj; lia
    rw [at' ns j hj']
    simp [eqV]
theorem flat_ints (ns : List Int) : (ns.map V.int).all flatV = true := by
  rw [List.all_map, List.all_eq_true]; intro _ _; rfl
end
example (K : PySem.W.Frag) : PySem.W.kitOne K (.type "int") (.type "tuple") = some false := by rfl
example (K : PySem.W.Frag) : PySem.W.kitOne K (.type "int") (.type "bool") = some false := by first | rfl | decide | (with_unfolding_all rfl)
end L2
end
section
set_option maxHeartbeats 4000001
namespace L2
open PySem PySem.Spec PyProof.Rows Own
theorem same_new {H : Hp} {p : Addr} (h : H p = none) (o : HO) : Same H (upd H p o) := fun b u q => by rw [upd_ne (ne_of_none q h)]; exact q
def capB (N N' : List Str) (sc scope : Scope) (cap : List (Option Nat)) : Bool :=
  decide (scope.kind = .function) && (scope.names.all fun y => decide (y.2 ≠ .cell) && (decide (y.2 ≠ .local) || decide (scope.names.lookup y.1 = some .local)) &&
    (decide (y.2 ≠ .free) || (decide (sc.names.lookup y.1 = some .cell) || decide (sc.names.lookup y.1 = some .free)))) && decide (cap.length = N'.length) &&
  ((N'.zip cap).all fun p => match p.2 with
    | none => true
    | some i => decide (N[i]? = some p.1) && (decide (scope.names.lookup p.1 = some .free) && (decide (sc.names.lookup p.1 = some .cell) || decide (sc.names.lookup p.1 = some .free))))
theorem CapOk.of {N N' : List Str} {sc scope : Scope} {cap : List (Option Nat)} (h : capB N N' sc scope cap = true) : CapOk N N' sc scope cap := by
  unfold capB at h
  simp only [Bool.and_eq_true, List.all_eq_true, Bool.or_eq_true, decide_eq_true_eq] at h
  obtain ⟨⟨⟨h1, h2⟩, h3⟩, h4⟩ := h; refine ⟨h1, fun y hy => (h2 y hy).1.1, fun y hy e => ?_, fun y hy e => ?_, h3, fun p hp i e => ?_⟩
  · rcases (h2 y hy).1.2 with z | z
    · exact absurd e z
    · exact z
  · rcases (h2 y hy).2 with z | z
    · exact absurd e z
    · exact z
  · have q := h4 p hp
    rw [e] at q
    simp only [Bool.and_eq_true, Bool.or_eq_true, decide_eq_true_eq] at q
    exact q
def Nx (n i : Nat) (p : Prop) : Prop := ∃ m', m' < n - i ∧ m' = n - (i + 1) ∧ i + 1 ≤ n ∧ p
theorem nx {n i : Nat} {p : Prop} (h : i < n) (q : p) : Nx n i p := ⟨n - (i + 1), by lia, rfl, h, q⟩
theorem lc_range {lo : Int} {n : Nat} {g : TG} {te : TE} {l : Addr} {σ : St} {H : Hp} {Q : VK} (Pv : Nat → List V → St → Hp → Prop) (h0 : Pv 0 [] σ H) (hl : ∀ i acc σ H, Pv i acc σ H → H l = some (.lst acc))
    (hs : ∀ i acc σ H, i < n → Pv i acc σ H → g (.int (lo + i)) σ H fun σ3 H3 => te σ3 H3 fun y H5 => H5 l = some (.lst acc) ∧ acc.length < sizeLine ∧ Nx n i (Pv (i + 1) (acc ++ [y]) σ3 (upd H5 l (.lst (acc ++ [y])))))
    (hd : ∀ acc σ H, Pv n acc σ H → Q (.ref l) H) : ∃ W : Nat → Nat → List V → St → Hp → Prop, (∃ m, W 0 m [] σ H) ∧ LCW (Itr lo n) g tYes te l Q W := by
  refine ⟨fun i m acc σ H => m = n - i ∧ i ≤ n ∧ Pv i acc σ H, ⟨n, by simp, Nat.zero_le _, h0⟩, ?_⟩
  rintro i m acc σ H ⟨rfl, hi, p⟩
  refine ⟨hl i acc σ H p, ?_⟩
  by_cases hlt : i < n
  · refine .inr ⟨hlt, fun x H2 ⟨e, y⟩ => ?_⟩
    subst e y
    exact hs i acc σ _ hlt p
  · have e : i = n := by lia
    subst e
    exact .inl ⟨Nat.le_refl _, hd acc σ H p⟩
theorem lc_zip {K : PySem.W.Frag} {b1 b2 : Bool} {a1 a2 : Addr} {xs ys : List V} (hxy : xs.length = ys.length) {g : TG} {te : TE} {l : Addr} {σ : St} {H : Hp} {Q : VK} (Pv : Nat → List V → St → Hp → Prop) (h0 : Pv 0 [] σ H)
    (hl : ∀ i acc σ H, Pv i acc σ H → H l = some (.lst acc) ∧ SqB b1 K H a1 xs ∧ SqB b2 K H a2 ys)
    (hs : ∀ i acc σ H x y T, xs[i]? = some x → ys[i]? = some y → H T = none → Pv i acc σ H → g (.ref T) σ (upd H T (.tup [x, y])) fun σ3 H3 => te σ3 H3 fun z H5 => H5 l = some (.lst acc) ∧ acc.length < sizeLine ∧ Nx xs.length i (Pv (i + 1) (acc ++ [z]) σ3 (upd H5 l (.lst (acc ++ [z])))))
    (hd : ∀ acc σ H, Pv xs.length acc σ H → Q (.ref l) H) : ∃ W : Nat → Nat → List V → St → Hp → Prop, (∃ m, W 0 m [] σ H) ∧ LCW (Itz K b1 b2 a1 a2) g tYes te l Q W := by
  refine ⟨fun i m acc σ H => m = xs.length - i ∧ i ≤ xs.length ∧ Pv i acc σ H, ⟨xs.length, by simp, Nat.zero_le _, h0⟩, ?_⟩
  rintro i m acc σ H ⟨rfl, hi, p⟩
  obtain ⟨q0, q1, q2⟩ := hl i acc σ H p
  refine ⟨q0, ?_⟩
  by_cases hlt : i < xs.length
  · refine .inr ⟨⟨xs, ys, _, _, q1, q2, List.getElem?_eq_getElem hlt, List.getElem?_eq_getElem (by lia)⟩, fun v H2 ⟨x, y, ex, ey, T, hT, e1, e2⟩ => ?_⟩
    subst e1 e2
    exact hs i acc σ H x y T (ex xs q1) (ey ys q2) hT p
  · have e : i = xs.length := by lia
    subst e
    exact .inl ⟨⟨xs, q1, rfl⟩, hd acc σ H p⟩
theorem for_enum {K : PySem.W.Frag} {b : Bool} {a : Addr} {xs : List V} {g : TG} {tb : TS} {D : Ends} {σ : St} {H : Hp} (Pv : Nat → St → Hp → Prop) (h0 : Pv 0 σ H) (hl : ∀ i σ H, i ≤ xs.length → Pv i σ H → SqB b K H a xs)
    (hs : ∀ i x σ H T, xs[i]? = some x → H T = none → Pv i σ H → g (.ref T) σ (upd H T (.tup [.int i, x])) fun σ2 H2 => tb { D with nx := Pv (i + 1), ct := Pv (i + 1), bk := D.nx } σ2 H2) (hd : ∀ σ H, Pv xs.length σ H → D.nx σ H) :
    ∃ W : Nat → Nat → St → Hp → Prop, (∃ m, W 0 m σ H) ∧ ∀ i m σ H, W i m σ H →
      ((Ite K b a).stop i H ∧ D.nx σ H) ∨ ((Ite K b a).go i H ∧ ∃ N : St → Hp → Prop, (∀ σ' H', N σ' H' → ∃ m', m' < m ∧ W (i + 1) m' σ' H') ∧ ∀ x H', (Ite K b a).yld i H x H' → g x σ H' fun σ2 H2 => tb { D with nx := N, ct := N, bk := D.nx } σ2 H2) := by
  refine ⟨fun i m σ H => m = xs.length - i ∧ i ≤ xs.length ∧ Pv i σ H, ⟨xs.length, by simp, Nat.zero_le _, h0⟩, ?_⟩
  rintro i m σ H ⟨rfl, hi, p⟩
  have q := hl i σ H hi p
  by_cases hlt : i < xs.length
  · refine .inr ⟨⟨xs, xs[i], q, List.getElem?_eq_getElem hlt⟩, Pv (i + 1), fun σ' H' p' => ⟨xs.length - (i + 1), by lia, rfl, hlt, p'⟩, fun x H' ⟨y, ey, T, hT, e1, e2⟩ => ?_⟩
    subst e1 e2
    exact hs i y σ H T (ey xs q) hT p
  · have e : i = xs.length := by lia
    subst e
    exact .inl ⟨⟨xs, q, rfl⟩, hd σ H p⟩
end L2
end
section
set_option maxHeartbeats 4000001
namespace L2
open PySem PySem.Spec PyProof.Rows Own
section
variable {X : Cx}
end
end L2
end
section
set_option maxHeartbeats 4000001
namespace Own
open PySem PySem.Spec PyProof.Rows
section
variable {prog : Program} {w : World} {A : Around} {E : Value → Shared → Prop} {s : Shared}
theorem SqO.cl {b : Bool} {a : Addr} {xs : Array Value} (x : SqO b s.heap a xs) : s.TypeIs (.ref a) (if b then "list" else "tuple") := by
  cases b <;> (obtain ⟨o, e, c, _⟩ := x; exact ⟨o, e, c⟩)
theorem gather {b : Bool} {a : Addr} {vs : List Value} {Q : List Value → Shared → Prop} (sq : SqO b s.heap a vs.toArray) (hz : vs.length ≤ sizeLine)
    (h : ∀ h', s.heap.objs.size ≤ h'.objs.size → (∀ c o, s.heap.get? c = some o → h'.get? c = some o) → Q vs { s with heap := h' }) : wpAny (model prog w) A (collect (.ref a)) Q E s := by
  obtain ⟨o, n, e, d⟩ := sq.ob
  have new : (s.heap.push (seqObj "list" #[] 0)).get? s.heap.objs.size = some (seqObj "list" #[] 0) := Heap.get?_push_size _ rfl
  have e' : (s.heap.push (seqObj "list" #[] 0)).get? a = some o := Heap.get?_push_of_some _ e
  have old : ∀ c u, s.heap.get? c = some u → ((s.heap.push (seqObj "list" #[] 0)).update s.heap.objs.size (Obj.mapSeq (· ++ vs.toArray))).get? c = some u := fun c u q => by
    rw [Heap.get?_update_other _ _ (Nat.ne_of_gt (Heap.lt_size q))]; exact Heap.get?_push_of_some _ q
  have sq' : SqO b (s.heap.push (seqObj "list" #[] 0)) a vs.toArray := sq.mv fun o q => Heap.get?_push_of_some _ q
  have short : ((#[] : Array Value) ++ vs.toArray).size ≤ sizeLine + 1 := by simp; lia
  unfold collect
  refine wpAny_bind (wpAny_runValue (codeAny_builtin entry_proto_collect' (wpAny_bind (wpAny_newList (wpAny_pure ⟨Code.quiet_builtin _ (by decide +kernel), codeAny_builtin entry_list_iadd' ?_⟩)))))
  show wpAny _ _ (Builtin.List.listExtendWith (.ref s.heap.objs.size) (.ref a) (.ref s.heap.objs.size)) _ _ ({ s with heap := s.heap.push (seqObj "list" #[] 0) } : Shared)
  unfold Builtin.List.listExtendWith; have tyr : Shared.TypeIs ({ s with heap := s.heap.push (seqObj "list" #[] 0) } : Shared) (.ref a) (if b then "list" else "tuple") := SqO.cl sq'
  refine wpAny_bind (wpAny_typeOf tyr ?_)
  have yes : (Builtin.List.listSameRef (.ref s.heap.objs.size) (.ref a) || Value.type (if b then "list" else "tuple") == Value.type "list" || Value.type (if b then "list" else "tuple") == Value.type "tuple") = true := by
    have c : ∀ b : Bool, (Value.type (if b then "list" else "tuple") == Value.type "list" || Value.type (if b then "list" else "tuple") == Value.type "tuple") = true := by decide
    rw [Bool.or_assoc, c b, Bool.or_true]
  rw [if_pos yes]
  refine wpAny_bind (listItems_at e' d (wpAny_bind (listItems_at new rfl ?_)))
  rw [if_neg (by simp)]
  refine wpAny_bind (listUpdate_at new rfl (wpAny_pure ?_) (Nat.zero_le _) short)
  refine wpAny_bind (wpAny_load (get?_update_seq new _) ?_)
  have all : ((#[] : Array Value) ++ vs.toArray).toList = vs := by simp
  have fin : wpAny (model prog w) A (pure ((#[] : Array Value) ++ vs.toArray).toList) Q E { s with heap := (s.heap.push (seqObj "list" #[] 0)).update s.heap.objs.size (Obj.mapSeq (· ++ vs.toArray)) } := by
    rw [all]; exact wpAny_pure (h _ (by rw [Heap.size_update, size_push']; exact Nat.le_succ _) old)
  exact fin
theorem sortedO {b : Bool} {a : Addr} {vs : List Value} {ns : List Int} {Q : Value → Shared → Prop} (sq : SqO b s.heap a vs.toArray) (hI : IntsAre vs ns) (h64 : vs.length < 64)
    (h : ∀ h' l ms e (out : Array Value), s.heap.objs.size ≤ l → h'.get? l = some (seqObj "list" out e) → IntsAre out.toList ms → ms.Perm ns → ms.Pairwise (· ≤ ·) → (∀ c o, s.heap.get? c = some o → h'.get? c = some o) → Q (.ref l) { s with heap := h' }) :
    wpAny (model prog w) A (call (.builtin "sorted") [.ref a]) Q E s := by
  refine Calls.call_function_entry kind_sorted plain_sorted entry_sorted (args_sorted1 _) ?_; unfold Builtin.«sorted»
  have small : vs.length ≤ sizeLine := Nat.le_trans (Nat.le_of_lt h64) (by decide)
  refine wpAny_bind (m := checkCount "sorted" 1 1 _) (wpAny_pure (wpAny_bind (gather sq small fun h1 far k1 => wpAny_bind (wpAny_newList ?_))))
  have new : (h1.push (seqObj "list" vs.toArray 0)).get? h1.objs.size = some (seqObj "list" vs.toArray 0) := Heap.get?_push_size _ rfl
  refine wpAny_bind (wpAny_holding (wpAny_call_entry slot_list_sort ⟨_, new, rfl⟩ entry_list_sort (list_sort_tree new hI h64 fun out ms i1 i2 i3 => ⟨_, rfl, ?_⟩) (args_list_sort _)))
  obtain ⟨e, he⟩ := sortedHeap_at (out := out) new
  refine wpAny_pure ⟨_, rfl, h _ _ ms e out far he i1 i2 i3 fun c o q => ?_⟩
  have lt := Heap.lt_size (k1 c o q)
  rw [sortedHeap_old (Nat.ne_of_lt lt) (by rw [size_push']; exact Nat.lt_succ_of_lt lt)]
  exact Heap.get?_push_of_some _ (k1 c o q)
end
end Own
namespace L2
open PySem PySem.Spec PyProof.Rows Own
section
variable {X : Cx}
theorem ints_of {ns : List Int} {us : List Value} (h : IntsAre us ns) : Vals (ns.map V.int) us := by
  induction h with
  | nil => exact .nil
  | cons n t _ ih => exact .cons ⟨t, rfl⟩ ih
theorem to_ints : ∀ {ns : List Int} {us : List Value}, Vals (ns.map V.int) us → IntsAre us ns
  | [], _, .nil => .nil
  | n :: ns, _, .cons ⟨t, e⟩ r => by subst e; exact .cons n t (to_ints r)
theorem call_sortedB (b : Bool) : CallR X (.builtin "sorted") (fun vs H Q => ∃ a ns, vs = [.ref a] ∧ SqB b X.K H a (List.map V.int ns) ∧ ns.length < 64 ∧ ∀ (l : Addr) (ms : List Int), H l = none → ms.Perm ns → ms.Pairwise (· ≤ ·) → Q (.ref l) (upd H l (.lst (ms.map V.int)))) := by
  intro pins s σ H vs us Q I rv h
  obtain ⟨a, ns, rfl, hq, h64, q⟩ := h
  obtain ⟨u, rfl, ru⟩ := rv.one
  cases ru
  obtain ⟨its, r, p⟩ := I.sq hq
  have hl : its.length = ns.length := by rw [← r.length, List.length_map]
  refine sortedO p (to_ints r) (by lia) fun h' l ms e out far eo i1 i2 i3 k => ?_
  refine ⟨.ref l, _, I.laid (t' := s.toks) (o := .lst (ms.map V.int)) k far ⟨?_, out.toList, e, ints_of i1, by simpa [seqObj] using eo⟩, rfl, q l ms (I.hok.fresh far) i2 i3⟩
  rw [List.length_map, i2.length_eq]
  exact Nat.le_trans (Nat.le_of_lt h64) (by decide)
end
end L2
end
section
set_option maxHeartbeats 4000001
namespace L2
open PySem PySem.Spec PyProof.Rows Own
section
variable {X : Cx}
theorem op_notB : OpR X (compareOp .IsNot) (fun x y H Q => ∃ c d : Bool, x = .bl c ∧ y = .bl d ∧ Q (.bl (!(c == d))) H) := by
  intro pins s σ H x y v u Q I rx ry h
  obtain ⟨c, d, rfl, rfl, q⟩ := h
  cases rx; cases ry
  exact wpAny_isNot_plain rfl (fin_bl I q (by cases c <;> cases d <;> rfl))
end
theorem lc_tup {K : PySem.W.Frag} {a : Addr} {xs : List V} {g : TG} {te : TE} {l : Addr} {σ : St} {H : Hp} {Q : VK} (Pv : Nat → List V → St → Hp → Prop) (h0 : Pv 0 [] σ H) (hl : ∀ i acc σ H, Pv i acc σ H → H l = some (.lst acc) ∧ SqT K H a xs)
    (hs : ∀ i x acc σ H, xs[i]? = some x → Pv i acc σ H → g x σ H fun σ3 H3 => te σ3 H3 fun y H5 => H5 l = some (.lst acc) ∧ acc.length < sizeLine ∧ Nx xs.length i (Pv (i + 1) (acc ++ [y]) σ3 (upd H5 l (.lst (acc ++ [y])))))
    (hd : ∀ acc σ H, Pv xs.length acc σ H → Q (.ref l) H) : ∃ W : Nat → Nat → List V → St → Hp → Prop, (∃ m, W 0 m [] σ H) ∧ LCW (Itt K a) g tYes te l Q W := by
  refine ⟨fun i m acc σ H => m = xs.length - i ∧ i ≤ xs.length ∧ Pv i acc σ H, ⟨_, rfl, Nat.zero_le _, h0⟩, ?_⟩
  rintro i m acc σ H ⟨rfl, hi, p⟩
  obtain ⟨q0, q1⟩ := hl i acc σ H p
  refine ⟨q0, ?_⟩
  by_cases hlt : i < xs.length
  · refine .inr ⟨⟨xs, xs[i], q1, List.getElem?_eq_getElem hlt⟩, fun x H2 ⟨e, y⟩ => ?_⟩
    subst e
    exact hs i x acc σ _ (y xs q1) p
  · obtain rfl : i = xs.length := by lia
    exact .inl ⟨⟨xs, q1, Nat.le_refl _⟩, hd acc σ H p⟩
theorem lc_list {K : PySem.W.Frag} {a : Addr} {xs : List V} {g : TG} {te : TE} {l : Addr} {σ : St} {H : Hp} {Q : VK} (Pv : Nat → List V → St → Hp → Prop) (h0 : Pv 0 [] σ H) (hl : ∀ i acc σ H, Pv i acc σ H → H l = some (.lst acc) ∧ SqL K H a xs)
    (hs : ∀ i x acc σ H, xs[i]? = some x → Pv i acc σ H → g x σ H fun σ3 H3 => te σ3 H3 fun y H5 => H5 l = some (.lst acc) ∧ acc.length < sizeLine ∧ Nx xs.length i (Pv (i + 1) (acc ++ [y]) σ3 (upd H5 l (.lst (acc ++ [y])))))
    (hd : ∀ acc σ H, Pv xs.length acc σ H → Q (.ref l) H) : ∃ W : Nat → Nat → List V → St → Hp → Prop, (∃ m, W 0 m [] σ H) ∧ LCW (Itl K a) g tYes te l Q W := by
  refine ⟨fun i m acc σ H => m = xs.length - i ∧ i ≤ xs.length ∧ Pv i acc σ H, ⟨_, rfl, Nat.zero_le _, h0⟩, ?_⟩
  rintro i m acc σ H ⟨rfl, hi, p⟩
  obtain ⟨q0, q1⟩ := hl i acc σ H p
  refine ⟨q0, ?_⟩
  by_cases hlt : i < xs.length
  · refine .inr ⟨⟨xs, xs[i], q1, List.getElem?_eq_getElem hlt⟩, fun x H2 ⟨e, y⟩ => ?_⟩
    subst e
    exact hs i x acc σ _ (y xs q1) p
  · obtain rfl : i = xs.length := by lia
    exact .inl ⟨⟨xs, q1, Nat.le_refl _⟩, hd acc σ H p⟩
end L2
end
section
set_option maxHeartbeats 4000001
namespace L2
open PySem PySem.Spec PyProof.Rows PySem.Calls PySem.NumText Own
section
variable {X : Cx}
end
end L2
end
section
set_option maxHeartbeats 4000001
namespace L2
open PySem PySem.Spec PyProof.Rows Own
section
variable {prog : Program} {w : World} {A : Around} {E : Value → Shared → Prop} {s : Shared}
end
def upTo (n : Nat) : List V := (List.range n).map fun (i : Nat) => V.int i
theorem vals_of_items {acc : Array Value} {n : Nat} (h : ItemsOf (fun i v => ∃ t, v = Value.int (0 + i * 1) t) acc n) : Vals (upTo n) acc.toList := by
  obtain ⟨h1, h2⟩ := h
  have go : ∀ (l : List Value) (k : Nat), (∀ (j : Nat) (v : Value), l[j]? = some v → ∃ t, v = Value.int ((k + j : Nat) : Int) t) → Vals ((List.range l.length).map fun (i : Nat) => V.int ((k + i : Nat) : Int)) l := by
    intro l
    induction l with
    | nil => intro k _; exact .nil
    | cons x l ih =>
      intro k hx
      rw [List.length_cons, List.range_succ_eq_map, List.map_cons, List.map_map]
      refine .cons (by obtain ⟨t, e⟩ := hx 0 x rfl; exact ⟨t, e⟩) ?_
      have := ih (k + 1) fun j v hj => by
        obtain ⟨t, e⟩ := hx (j + 1) v (by simpa using hj)
        exact ⟨t, by rw [e]; congr 1; lia⟩
      refine cast (congrArg (fun z => Vals z l) (List.map_congr_left fun i _ => ?_)) this
      show V.int ((k + 1 + i : Nat) : Int) = V.int ((k + (i + 1) : Nat) : Int)
      congr 2; lia
  have := go acc.toList 0 fun j v hj => by
    obtain ⟨t, e⟩ := h2 j v (by simpa using hj)
    exact ⟨t, by rw [e]; congr 1; lia⟩
  rw [Array.length_toList, h1] at this
  unfold upTo
  refine cast (congrArg (fun z => Vals z acc.toList) (List.map_congr_left fun i _ => ?_)) this
  show V.int ((0 + i : Nat) : Int) = V.int (i : Int)
  rw [Nat.zero_add]
theorem upTo_len (n : Nat) : (upTo n).length = n := by simp [upTo]
section
variable {X : Cx}
def tTyRng (b : Bool) (ta : TA) : TE := fun σ H Q => ta σ H fun vs H1 => ∃ j : Nat, vs = [.int j] ∧ j ≤ 100000 ∧ ∀ l, H1 l = none → Q (.ref l) (upd H1 l (if b = true then .lst (upTo j) else .tup (upTo j)))
theorem small_of {j : Nat} (h : j ≤ 100000) : Builtin.Range.small 0 (j : Int) 1 = true := small_one (by lia) (by lia) (by lia) (by lia)
theorem size_of {j : Nat} : Builtin.Range.rangeSize 0 (j : Int) 1 = ((j : Nat) : Int) := by rw [rangeSize_one]; split <;> lia
theorem pe_lstRng {a : Expr} {ta : TA} {p p2 pos pos2 : Pos} (hc : X.calm = true) (hgl : Gl X "list") (hml : X.mg "list" = none) (hgr : Gl X "range") (hmr : X.mg "range" = none) (ha : PA X [a] ta) (hs : starEach [a] X.env = [(false, eval a X.env)] := by rfl)
    (hs2 : starEach [.Call (.Name "range" p2) [a] [] pos2] X.env = [(false, eval (.Call (.Name "range" p2) [a] [] pos2) X.env)] := by rfl) : PE X (.Call (.Name "list" p) [.Call (.Name "range" p2) [a] [] pos2] [] pos) (tTyRng true ta) := by
  intro pins s σ H Q I h
  refine wpAny_Call_Name_kw (ld_blt I hgl hml (u := .type "list") (by rfl) (PyProof.Rows.callWith_type1 ?_ hs2 rfl))
  rw [hs2]
  refine Calls.spliced_cons (Call_ (ld_blt I hgr hmr boot_range (PyProof.Rows.callWith_type1 (thn (ha pos2 pins s σ H _ I h) fun us s1 ⟨vs, H1, I1, r1, q1⟩ => ?_) hs rfl)))
  obtain ⟨j, rfl, hj, q⟩ := q1
  obtain ⟨u, rfl, t, rfl⟩ := r1.one
  refine call_range_1 (Calls.spliced_nil ?_)
  refine call_list_range (n := j) (I1.ok.hd hc) (IsRange.new ..) (small_of hj) size_of (Nat.le_trans hj (by decide)) fun h' tk acc' c' kk e it => ?_
  have k2 : ∀ b o, s1.heap.get? b = some o → h'.get? b = some o := fun b o z => kk b o (Heap.get?_push_of_some _ z)
  refine ⟨.ref _, _, I1.laid (t' := tk) (o := .lst (upTo j)) k2 ?_ ⟨by rw [upTo_len]; exact Nat.le_trans hj (by decide), acc'.toList, c', vals_of_items it, by simpa using e⟩, rfl, q _ (I1.hok.fresh ?_)⟩
  all_goals (show s1.heap.objs.size ≤ (s1.heap.push _).objs.size; rw [Heap.size_push]; exact Nat.le_succ _)
end
end L2
end
section
set_option maxHeartbeats 4000001
namespace L2
open PySem PySem.Spec PyProof.Rows Own
section
variable {prog : Program} {w : World} {A : Around} {E : Value → Shared → Prop} {s : Shared}
end
section
variable {X : Cx}
end
end L2
end
section
set_option maxHeartbeats 4000001
namespace L2
open PySem PySem.Spec PyProof.Rows Own
section
variable {X : Cx}
end
end L2
end
section
set_option maxHeartbeats 4000001
namespace L2
open PySem PySem.Spec PyProof.Rows Own
section
variable {X : Cx}
end
end L2
end
section
set_option maxHeartbeats 4000001
namespace Bn
open PySem L2 Own
def Tups (H H' : Hp) : Prop := ∀ a xs, H a = some (.tup xs) → H' a = some (.tup xs)
theorem Tups.of {H H' : Hp} (s : Same H H') : Tups H H' := fun a _ e => s a _ e
theorem Tups.lst {H : Hp} {l : Addr} {xs ys : List V} (h : H l = some (.lst xs)) : Tups H (upd H l (.lst ys)) := fun a zs e => by
  rw [upd_ne (by rintro rfl; rw [h] at e; cases e)]; exact e
def But (l : Addr) (H H' : Hp) : Prop := ∀ b o, H b = some o → b ≠ l → H' b = some o
theorem But.trans {l : Addr} {H H1 H2 : Hp} (x : But l H H1) (y : But l H1 H2) : But l H H2 := fun b o e n => y b o (x b o e n) n
theorem But.of {l : Addr} {H H1 : Hp} (x : Same H H1) : But l H H1 := fun b o e _ => x b o e
def Prs (H : Hp) : List V → List (Nat × Nat) → Prop
  | [], [] => True
  | p :: ps, f :: fs => (∃ a, p = .ref a ∧ H a = some (.tup [.int f.1, .int f.2])) ∧ Prs H ps fs
  | _, _ => False
theorem Prs.tups {H H' : Hp} (t : Tups H H') : ∀ {ps : List V} {fs : List (Nat × Nat)}, Prs H ps fs → Prs H' ps fs
  | [], [], _ => trivial
  | _ :: _, _ :: _, ⟨⟨a, e, h⟩, r⟩ => ⟨⟨a, e, t _ _ h⟩, r.tups t⟩
theorem Prs.len {H : Hp} : ∀ {ps : List V} {fs : List (Nat × Nat)}, Prs H ps fs → ps.length = fs.length
  | [], [], _ => rfl
  | _ :: _, _ :: _, ⟨_, r⟩ => congrArg (· + 1) r.len
theorem Prs.add {H : Hp} {a : Addr} {f : Nat × Nat} (h : H a = some (.tup [.int f.1, .int f.2])) : ∀ {ps : List V} {fs : List (Nat × Nat)}, Prs H ps fs → Prs H (ps ++ [.ref a]) (fs ++ [f])
  | [], [], _ => ⟨⟨a, rfl, h⟩, trivial⟩
  | _ :: _, _ :: _, ⟨x, r⟩ => ⟨x, r.add h⟩
theorem Prs.get {H : Hp} : ∀ {ps : List V} {fs : List (Nat × Nat)} {i : Nat} {p : V}, Prs H ps fs → ps[i]? = some p → ∃ a f, p = .ref a ∧ fs[i]? = some f ∧ H a = some (.tup [.int f.1, .int f.2])
  | [], [], _, _, _, e => by simp at e
  | _ :: _, f :: _, 0, p, ⟨⟨a, e1, h⟩, _⟩, e => by
    have : _ = p := Option.some.inj e
    subst this
    exact ⟨a, f, e1, rfl, h⟩
  | _ :: _, _ :: _, i + 1, p, ⟨_, r⟩, e => r.get (i := i) (by simpa using e)
structure Nt where
  lanes : Nat
  forks : List (Nat × Nat)
  ends : List Nat
structure Nt.Ok (N : Nt) : Prop where
  l1 : 1 ≤ N.lanes
  l16 : N.lanes ≤ 16
  fm : N.forks.length ≤ 128
  fk : ∀ f ∈ N.forks, f.1 < N.lanes ∧ f.2 < N.lanes ∧ f.1 ≠ f.2
  en : N.ends.Perm (List.range N.lanes)
def nums (es : List Nat) : List V := es.map fun (e : Nat) => V.int e
structure NetAt (H : Hp) (r fr er : Addr) (ps : List V) (N : Nt) : Prop where
  net : H r = some (.tup [.int N.lanes, .ref fr, .ref er])
  forks : H fr = some (.tup ps)
  prs : Prs H ps N.forks
  ends : H er = some (.tup (nums N.ends))
theorem NetAt.tups {H H' : Hp} {r fr er : Addr} {ps : List V} {N : Nt} (t : Tups H H') (h : NetAt H r fr er ps N) : NetAt H' r fr er ps N := ⟨t _ _ h.net, t _ _ h.forks, h.prs.tups t, t _ _ h.ends⟩
theorem at_int {cs : List Int} {i : Nat} (h : i < cs.length) : atI (cs.map V.int) ((i : Nat) : Int) = some (.int (cs.getD i 0)) := by
  refine atI_nat ?_
  rw [List.getElem?_map, List.getD_eq_getElem?_getD, List.getElem?_eq_getElem h]; rfl
theorem ix_at {α : Type} {xs : List α} {i : Nat} (h : i < xs.length) : ixN xs.length ((i : Nat) : Int) = some i := by
  unfold ixN
  rw [if_pos (by lia), if_pos (by lia)]; simp
theorem set_ints (cs : List Int) (i : Nat) (a : Int) : (cs.map V.int).set i (.int a) = (cs.set i a).map V.int := by rw [List.map_set]
structure Mgs (mg : Str → Option Value) : Prop where
  len : mg "len" = none
  range : mg "range" = none
  tuple : mg "tuple" = none
  enum : mg "enumerate" = none
  abs : mg "abs" = none
  zip : mg "zip" = none
  isi : mg "isinstance" = none
  all : mg "all" = none
  sum : mg "sum" = none
  bool : mg "bool" = none
  int : mg "int" = none
  str : mg "str" = none
  max : mg "max" = none
  min : mg "min" = none
  sorted : mg "sorted" = none
  list : mg "list" = none
structure Use (P : Program) (w : World) (K : PySem.W.Frag) (mg : Str → Option Value) (base : Heap) (x : Str) (ps : List Str) (k : Nat) (sp : Sp) (f : Addr) (fd : FuncData) : Prop where
  ok : FnOk P w K mg base CX0 k f fd ps sp
  b : Binds K fd ps []
  kp : PySem.W.keepIn K (.ref f) = true
  m : mg x = some (.ref f)
def Frs (l : Addr) (H : Hp) (x : Addr) : Prop := ∀ b o, H b = some o → b ≠ l → b ≠ x
theorem But.frs {l x : Addr} {H H1 : Hp} (B : But l H H1) (h : H1 x = none) : Frs l H x := fun b o e n => ne_of_none (B b o e n) h
theorem But.upd {l x : Addr} {H H1 : Hp} {o : HO} (B : But l H H1) (f : Frs l H x) : But l H (upd H1 x o) := fun b u e n => by rw [upd_ne (f b u e n)]; exact B b u e n
theorem But.new {l x : Addr} {H H1 : Hp} {o : HO} (B : But l H H1) (h : H1 x = none) : But l H (L2.upd H1 x o) := B.upd (B.frs h)
theorem nums_len (es : List Nat) : (nums es).length = es.length := by simp [nums]
end Bn
end
section
set_option maxHeartbeats 4000001
namespace Bn
open PySem L2 Own
def nm (ns : List Nat) (i : Nat) : Nat := ns.getD i 0
section
variable {ns : List Nat} {n : Nat} (pm : ns.Perm (List.range n))
include pm
end
def Nt.again (N : Nt) (f : Nat × Nat) : Nt := ⟨N.lanes, N.forks ++ [f], N.ends⟩
end Bn
end
section
set_option maxHeartbeats 4000001
namespace L2
open PySem PySem.Spec PyProof.Rows Own
def DEq (K : PySem.W.Frag) (H : Hp) : Nat → V → V → Prop
  | 0, x, y => x = y ∧ flatV x = true
  | n + 1, x, y => (x = y ∧ flatV x = true) ∨ ∃ a b xs ys, x = .ref a ∧ y = .ref b ∧ SqT K H a xs ∧ SqT K H b ys ∧ xs.length = ys.length ∧ ∀ (i : Nat) (u v : V), xs[i]? = some u → ys[i]? = some v → DEq K H n u v
section
variable {X : Cx}
theorem eqV_self {x : V} (h : flatV x = true) : eqV x x = true := by
  cases x <;> first | rfl | (simp [eqV]; done) | exact absurd (show false = true from h) Bool.false_ne_true
theorem all_true (n : Nat) : (List.range n).all (fun _ => true) = true := by rw [List.all_eq_true]; intro _ _; rfl
theorem eqAt_flat {A : Around} {s : Shared} {x : V} {u v : Value} (f : flatV x = true) (r1 : RelV x u) (r2 : RelV x v) : SeqAt.EqAt A s u v true := by
  have := eqAt_V (A := A) (s := s) r1 r2 f f
  rwa [eqV_self f] at this
theorem eqAt_D {pins : List (Addr × Obj)} {σ : St} {H : Hp} {s : Shared} (I : Inv X pins σ H s) : ∀ (n : Nat) (A : Around) (x y : V) (u v : Value), A.units + n < cLine → DEq X.K H n x y → RelV x u → RelV y v → SeqAt.EqAt A s u v true
  | 0, A, x, y, u, v, _, ⟨e, f⟩, r1, r2 => by subst e; exact eqAt_flat f r1 r2
  | n + 1, A, x, y, u, v, hu, h, r1, r2 => by
    rcases h with ⟨e, f⟩ | ⟨a, b, xs, ys, rfl, rfl, h1, h2, hl, hx⟩
    · subst e; exact eqAt_flat f r1 r2
    · cases r1; cases r2
      by_cases ab : a = b
      · subst ab; exact SeqAt.EqAt.same _
      · obtain ⟨its, g1, p1, _⟩ := I.tuple h1
        obtain ⟨jts, g2, p2, _⟩ := I.tuple h2
        have l1 := g1.length
        have l2 := g2.length
        refine SeqAt.EqAt.of_refs ab ?_
        have := SeqAt.RcAt.tuples (e := fun _ => true) p1 p2 (A := A) (s := s) (by lia) (fun j k1 k2 => ?_)
        · rw [all_true, List.size_toArray, List.size_toArray, ← l1, ← l2, hl] at this
          simpa using this
        · have k1' : j < xs.length := by simpa [l1] using k1
          have k2' : j < ys.length := by simpa [l2] using k2
          obtain ⟨w1, e1, q1⟩ := g1.get (List.getElem?_eq_getElem k1')
          obtain ⟨w2, e2, q2⟩ := g2.get (List.getElem?_eq_getElem k2')
          have z1 : its.toArray[j] = w1 := by simpa using (List.getElem?_eq_some_iff.mp e1).2
          have z2 : jts.toArray[j] = w2 := by simpa using (List.getElem?_eq_some_iff.mp e2).2
          rw [z1, z2]
          exact eqAt_D I n A.in1 _ _ _ _ (by show A.units + 1 + n < cLine; lia) (hx j _ _ (List.getElem?_eq_getElem k1') (List.getElem?_eq_getElem k2')) q1 q2
def rSameD (K : PySem.W.Frag) (c : Bool) : R2 := fun x y H Q => ∃ n a b xs ys, n ≤ 20 ∧ x = .ref a ∧ y = .ref b ∧ SqT K H a xs ∧ SqT K H b ys ∧ xs.length = ys.length ∧ (∀ (i : Nat) (u v : V), xs[i]? = some u → ys[i]? = some v → DEq K H n u v) ∧ Q (.bl c) H
theorem op_neD (hu : X.A.units + 64 < cLine) : OpR X (compareOp .NotEq) (rSameD X.K false) := by
  intro pins s σ H x y vx vy Q I rx ry h
  obtain ⟨n, a, b, xs, ys, hn, rfl, rfl, h1, h2, hl, hx, q⟩ := h
  cases rx; cases ry
  obtain ⟨its, g1, p1, _⟩ := I.tuple h1
  obtain ⟨jts, g2, p2, _⟩ := I.tuple h2
  have l1 := g1.length
  have l2 := g2.length
  refine SeqAt.RcNeAt.tuples (e := fun _ => true) p1 p2 (by lia) (fun j k1 k2 => ?_) X.prog X.w _ _ ?_
  · have k1' : j < xs.length := by simpa [l1] using k1
    have k2' : j < ys.length := by simpa [l2] using k2
    obtain ⟨w1, e1, q1⟩ := g1.get (List.getElem?_eq_getElem k1')
    obtain ⟨w2, e2, q2⟩ := g2.get (List.getElem?_eq_getElem k2')
    have z1 : its.toArray[j] = w1 := by simpa using (List.getElem?_eq_some_iff.mp e1).2
    have z2 : jts.toArray[j] = w2 := by simpa using (List.getElem?_eq_some_iff.mp e2).2
    rw [z1, z2]
    exact eqAt_D I n _ _ _ _ _ (by show X.A.units + 1 + n < cLine; lia) (hx j _ _ (List.getElem?_eq_getElem k1') (List.getElem?_eq_getElem k2')) q1 q2
  · rw [all_true, List.size_toArray, List.size_toArray, ← l1, ← l2, hl]
    refine ⟨.bl false, H, I, ?_, q⟩
    show Value.bool _ = Value.bool false
    simp
end
end L2
end
section
set_option maxHeartbeats 4000001
namespace L2
open PySem PySem.Spec PyProof.Rows Own
section
variable {prog : Program} {w : World} {A : Around} {E : Value → Shared → Prop} {s : Shared}
end
section
variable {X : Cx}
end
end L2
end
section
set_option maxHeartbeats 4000001
namespace L2
open PySem PySem.Spec PyProof.Rows Own
section
variable {prog : Program} {w : World} {A : Around} {R : Result → Shared → Prop} {I S : Addr} {fp wr : List Addr} {n : Nat} {P B : Nat → Value → Prop} {St : Nat → Heap → Prop}
end
section
variable {prog : Program} {w : World} {A : Around} {E : Value → Shared → Prop} {s : Shared}
end
section
variable {X : Cx} {e e2 : Expr} {ta tb : TE} {p kp pos : Pos}
end
end L2
end
section
set_option maxHeartbeats 4000001
namespace K77
open PySem L2 Own Bn
def top (i : Nat) : Stmt := PySem.Challenge.pw_stairlanes_k77_whole_any_rows.main.body.getD i (.Pass ⟨0, 0, 0, 0⟩)
end K77
end
section
set_option maxHeartbeats 4000001
namespace K77
open PySem L2 Own Bn
abbrev sTake : Stmt := top 34
structure StAt (H : Hp) (l : Addr) (n : Nat) : Prop where
  ex : ∃ a b c : Int, H l = some (.lst [.int a, .int b, .int c]) ∧ 0 ≤ a ∧ 0 ≤ b ∧ b < 2 ^ 62 ∧ 0 ≤ c ∧ c ≤ n
theorem StAt.mono {H : Hp} {l : Addr} {n m : Nat} (h : StAt H l n) (k : n ≤ m) : StAt H l m := by
  obtain ⟨a, b, c, h1, h2, h3, h4, h5, h6⟩ := h.ex
  exact ⟨a, b, c, h1, h2, h3, h4, h5, by lia⟩
def spTake (_K : PySem.W.Frag) : Sp := fun vs H Q _ => ∃ (l : Addr) (m : Int) (n : Nat), vs = [.ref l, .int m] ∧ 0 < m ∧ m < 1073741824 ∧ StAt H l n ∧ n < 2 ^ 60 ∧
  ∀ v H', 0 ≤ v → v < m → StAt H' l (n + 1) → But l H H' → Q (.int v) H'
section
variable {P : Program} {w : World} {K : PySem.W.Frag} {mg : Str → Option Value} {base : Heap}
theorem scT : FnScope ["_law_state", "_law_many", "_law_digit", "_law_mixed"] ["_law_state", "_law_many"] (defScope sTake) := ⟨rfl, rfl, rfl, by decide +kernel, rfl, by decide +kernel, by decide +kernel⟩
theorem ok_take {f : Addr} {fd : FuncData} (F : Fun K "_law_take" "_law_take" sTake f fd) : FnOk P w K mg base CX0 1 f fd ["_law_state", "_law_many"] (spTake K) := by
  refine F.ok scT (fun vs H Q E h => ?_) (fun cdv A outer s H vs Q E hr h => ?_)
  · obtain ⟨l, m, n, rfl, _⟩ := h
    rfl
  · obtain ⟨l, m, n, rfl, m0, m1, S, hn, k⟩ := h
    obtain ⟨a, b, c, hl, ha, hb, hb2, hc, hcn⟩ := S.ex
    refine ⟨_, pss_cons (ps_if (pt_cmpR op_gt (pe_ix ix_list (pv 0) pe_int (fun _ _ => rfl)) pe_int (nomark _))
        (pss_cons (ps_set (i := 2) scT.nd rfl (Or.inl rfl) (pe_op op_mod (pe_ix ix_list (pv 0) pe_int (fun _ _ => rfl)) (pv 1)))
        (pss_cons (ps_asg (pe_op op_fdiv (pe_ix ix_list (pv 0) pe_int (fun _ _ => rfl)) (pv 1)) (pg_sub (pv 0) pe_int set_list))
        (pss_one (ps_ret (pv 2))))) pss_nil)
      (pss_cons (ps_asg (pe_op op_add (pe_ix ix_list (pv 0) pe_int (fun _ _ => rfl)) pe_int) (pg_sub (pv 0) pe_int set_list))
      (pss_cons (ps_set (i := 3) scT.nd rfl (Or.inl rfl) (pe_op op_mod (pe_op op_mul (pe_op op_add (pe_op op_add (pe_ix ix_list (pv 0) pe_int (fun _ _ => rfl)) (pe_op op_mul (pe_op op_mul pe_int (pe_ix ix_list (pv 0) pe_int (fun _ _ => rfl))) (pe_ix ix_list (pv 0) pe_int (fun _ _ => rfl)))) pe_int) pe_int) pe_int))
      (pss_cons (ps_set (i := 3) scT.nd rfl (Or.inl rfl) (pe_op op_mod (pe_op op_mul (pv 3) (pe_op op_add (pe_op op_mod (pv 3) pe_int) (pe_op op_mul pe_int (pe_ix ix_list (pv 0) pe_int (fun _ _ => rfl))))) pe_int))
      (pss_one (ps_ret (pe_op op_mod (pe_op op_add (pe_op op_fdiv (pv 3) pe_int) (pe_op op_fdiv (pv 3) pe_int)) (pv 1))))))), ?_⟩
    refine ⟨_, rfl, l, _, _, _, rfl, rfl, SqL.of hl, rfl, _, _, rfl, rfl, _, rfl, ?_⟩
    refine ite2 (fun q => ?_) (fun q => ?_)
    · refine ⟨_, rfl, l, _, _, _, rfl, rfl, SqL.of hl, rfl, _, rfl, _, _, rfl, rfl, m0, ?_⟩
      refine ⟨_, rfl, l, _, _, _, rfl, rfl, SqL.of hl, rfl, _, rfl, _, _, rfl, rfl, ⟨m0, m1⟩, _, rfl, l, _, _, 0, rfl, rfl, hl, rfl, _, rfl, ?_⟩
      refine k _ _ (Int.emod_nonneg _ (by lia)) (Int.emod_lt_of_pos _ m0) ⟨a / m, b, c, upd_same, Int.ediv_nonneg ha (by lia), hb, hb2, hc, by lia⟩ fun x o e ne => ?_
      rw [upd_ne ne]; exact e
    · refine ⟨_, rfl, l, _, _, _, rfl, rfl, SqL.of hl, rfl, _, _, rfl, rfl, _, rfl, l, _, _, 2, rfl, rfl, hl, rfl, ?_⟩
      generalize hH : upd H l (HO.lst ([V.int a, V.int b, V.int c].set 2 (V.int (c + 1)))) = H1
      have h1 : H1 l = some (.lst [.int a, .int b, .int (c + 1)]) := by rw [← hH]; exact upd_same
      have sm : (-(2 ^ 64) : Int) < c + 1 ∧ c + 1 < 2 ^ 64 := ⟨by lia, by lia⟩
      refine ⟨_, rfl, l, _, _, _, rfl, rfl, SqL.of h1, rfl, _, rfl, l, _, _, _, rfl, rfl, SqL.of h1, rfl, _, _, rfl, rfl, .inl ⟨by decide, by decide⟩, _, rfl, l, _, _, _, rfl, rfl, SqL.of h1, rfl, _, _, rfl, rfl, .inr sm, _, _, rfl, rfl, _, _, rfl, rfl, _, _, rfl, rfl, .inr ⟨by decide, by decide⟩, _, _, rfl, rfl, (by show (0 : Int) < 2305843009213693921; decide), ?_⟩
      generalize hx : (b + 65537 * (c + 1) * (c + 1) + 11) * 48271 % 2305843009213693921 = x
      have x0 : 0 ≤ x := by rw [← hx]; exact Int.emod_nonneg _ (by decide)
      have x1 : x < 2305843009213693921 := by rw [← hx]; exact Int.emod_lt_of_pos _ (by decide)
      refine ⟨_, rfl, _, rfl, _, _, rfl, rfl, (by show (0 : Int) < 1000003; decide), _, rfl, l, _, _, _, rfl, rfl, SqL.of h1, rfl, _, _, rfl, rfl, .inl ⟨by decide, by decide⟩, _, _, rfl, rfl, _, _, rfl, rfl, .inl ⟨by lia, by lia⟩, _, _, rfl, rfl, (by show (0 : Int) < 2305843009213693907; decide), ?_⟩
      refine ⟨_, rfl, _, _, rfl, rfl, ⟨by decide, by decide⟩, _, rfl, _, _, rfl, rfl, ⟨by decide, by decide⟩, _, _, rfl, rfl, _, rfl, _, _, rfl, rfl, m0, ?_⟩
      refine k _ _ (Int.emod_nonneg _ (by lia)) (Int.emod_lt_of_pos _ m0) ⟨a, b, c + 1, h1, ha, hb, hb2, by lia, by lia⟩ fun y o e ne => ?_
      rw [← hH, upd_ne ne]; exact e
end
end K77
end
section
set_option maxHeartbeats 4000001
namespace K77
open PySem L2 Own Bn
theorem StAt.keep {H H' : Hp} {l : Addr} {n : Nat} (S : StAt H l n) (s : Same H H') : StAt H' l n := by
  obtain ⟨a, b, c, h, r⟩ := S.ex
  exact ⟨a, b, c, s _ _ h, r⟩
theorem StAt.ne {H : Hp} {l p : Addr} {n : Nat} (S : StAt H l n) (h : H p = none) : l ≠ p := by
  obtain ⟨a, b, c, e, _⟩ := S.ex
  exact ne_of_none e h
theorem StAt.upd {H : Hp} {l p : Addr} {o : HO} {n : Nat} (S : StAt H l n) (h : l ≠ p) : StAt (L2.upd H p o) l n := by
  obtain ⟨a, b, c, e, r⟩ := S.ex
  exact ⟨a, b, c, by rw [upd_ne h]; exact e, r⟩
theorem nums_erase (es : List Nat) (k : Nat) : (nums es).eraseIdx k = nums (es.eraseIdx k) := by
  unfold nums
  rw [List.eraseIdx_eq_take_drop_succ, List.eraseIdx_eq_take_drop_succ, List.map_append, List.map_take, List.map_drop]
end K77
end
section
set_option maxHeartbeats 4000001
namespace L2
open PySem PySem.Spec PyProof.Rows Own
section
variable {X : Cx}
end
theorem cut_from (xs : List V) (i : Nat) (h : i ≤ xs.length) : cutV xs (some (i : Int)) none = xs.drop i := by
  unfold cutV
  rw [HT.sIx_none, HT.sIx_nat, Nat.min_eq_left h]
  exact List.take_of_length_le (by rw [List.length_drop]; exact Nat.le_refl _)
end L2
end
section
set_option maxHeartbeats 4000001
namespace L2
open PySem PySem.Spec PyProof.Rows Own
section
variable {X : Cx}
theorem ints_eqAt {A : Around} {s : Shared} {ns ms : List Int} {its jts : List Value} (r1 : Vals (ns.map V.int) its) (r2 : Vals (ms.map V.int) jts) (j : Nat) (h1 : j < its.toArray.size) (h2 : j < jts.toArray.size) :
    SeqAt.EqAt A s its.toArray[j] jts.toArray[j] (eqV ((ns.map V.int).getD j .non) ((ms.map V.int).getD j .non)) := by
  have k1 : j < (ns.map V.int).length := by rw [r1.length]; simpa using h1
  have k2 : j < (ms.map V.int).length := by rw [r2.length]; simpa using h2
  obtain ⟨a, ea, qa⟩ := r1.get (List.getElem?_eq_getElem k1)
  obtain ⟨b, eb, qb⟩ := r2.get (List.getElem?_eq_getElem k2)
  have ga : its.toArray[j] = a := by simpa using (List.getElem?_eq_some_iff.mp ea).2
  have gb : jts.toArray[j] = b := by simpa using (List.getElem?_eq_some_iff.mp eb).2
  have fl := flat_ints ns
  have fm := flat_ints ms
  rw [ga, gb, List.getD_eq_getElem?_getD, List.getD_eq_getElem?_getD, List.getElem?_eq_getElem k1, List.getElem?_eq_getElem k2]
  exact eqAt_V qa qb (List.all_eq_true.mp fl _ (List.getElem_mem k1)) (List.all_eq_true.mp fm _ (List.getElem_mem k2))
theorem all_same {ns ms : List Int} (h : ns.length = ms.length) : ((List.range ns.length).all fun j => eqV ((ns.map V.int).getD j .non) ((ms.map V.int).getD j .non)) = decide (ns = ms) := by
  rw [← all_eq ns ms, List.length_map, List.length_map, h, Nat.min_self, beq_self_eq_true, Bool.and_true]
theorem op_neLi (hu : X.A.units < cLine) : OpR X (compareOp .NotEq) (fun x y H Q => ∃ a b ns ms, x = .ref a ∧ y = .ref b ∧ SqL X.K H a (List.map V.int ns) ∧ SqL X.K H b (List.map V.int ms) ∧ Q (.bl (!decide (ns = ms))) H) := by
  rintro pins s σ H x y v u Q I rx ry ⟨a, b, ns, ms, rfl, rfl, ha, hb, q⟩
  cases rx; cases ry
  obtain ⟨its, r1, p1, _⟩ := I.list ha
  obtain ⟨jts, r2, p2, _⟩ := I.list hb
  have l1 : its.length = ns.length := by rw [← r1.length, List.length_map]
  have l2 : jts.length = ms.length := by rw [← r2.length, List.length_map]
  by_cases e : ns.length = ms.length
  · refine SeqAt.RcNeAt.lists p1.isList p2.isList (by simpa [l1, l2] using e) hu (ints_eqAt r1 r2) X.prog X.w _ _ ?_
    rw [List.size_toArray, l1, all_same e]
    exact ⟨.bl _, H, I, rfl, q⟩
  · refine SeqAt.RcNeAt.lists_lengths p1.isList p2.isList (by simpa [l1, l2] using e) hu X.prog X.w _ _ ?_
    rw [decide_eq_false (fun z => e (congrArg List.length z))] at q
    exact ⟨.bl _, H, I, rfl, q⟩
theorem op_eqLi (hu : X.A.units < cLine) : OpR X (compareOp .Eq) (fun x y H Q => ∃ a b ns ms, x = .ref a ∧ y = .ref b ∧ SqL X.K H a (List.map V.int ns) ∧ SqL X.K H b (List.map V.int ms) ∧ Q (.bl (decide (ns = ms))) H) := by
  rintro pins s σ H x y v u Q I rx ry ⟨a, b, ns, ms, rfl, rfl, ha, hb, q⟩
  cases rx; cases ry
  obtain ⟨its, r1, p1, _⟩ := I.list ha
  obtain ⟨jts, r2, p2, _⟩ := I.list hb
  have l1 : its.length = ns.length := by rw [← r1.length, List.length_map]
  have l2 : jts.length = ms.length := by rw [← r2.length, List.length_map]
  by_cases e : ns.length = ms.length
  · refine SeqAt.RcAt.lists p1.isList p2.isList (by simpa [l1, l2] using e) hu (ints_eqAt r1 r2) X.prog X.w _ _ ?_
    rw [List.size_toArray, l1, all_same e]
    exact ⟨.bl _, H, I, rfl, q⟩
  · refine SeqAt.RcAt.lists_lengths p1.isList p2.isList (by simpa [l1, l2] using e) hu X.prog X.w _ _ ?_
    rw [decide_eq_false (fun z => e (congrArg List.length z))] at q
    exact ⟨.bl _, H, I, rfl, q⟩
end
end L2
end
section
set_option maxHeartbeats 4000001
namespace L2
open PySem PySem.Spec PyProof.Rows Own
section
variable {X : Cx}
end
end L2
end
section
set_option maxHeartbeats 4000001
namespace L2
open PySem PySem.Spec PyProof.Rows PySem.Calls PySem.NumText Own
section
variable {prog : Program} {w : World} {A : Around} {E : Value → Shared → Prop} {s : Shared}
end
section
variable {X : Cx}
end
end L2
end
section
set_option maxHeartbeats 4000001
namespace L2
open PySem PySem.Spec PyProof.Rows Own Builtin Builtin.Str
section
variable {X : Cx}
theorem mt_starts : MtR X "str.startswith" (fun x xs H Q => ∃ a b : Str, x = .str a ∧ xs = [.str b] ∧ Q (.bl (decide (0 + b.length ≤ a.length) && subAt a b 0)) H) := by
  intro pins s σ H x xs v us Q I rx rs h
  obtain ⟨a, b, rfl, rfl, q⟩ := h
  obtain ⟨t, rfl⟩ := rx
  obtain ⟨u, rfl, t', rfl⟩ := vals1 rs
  exact call_gives F.slot_str_startswith (typeIs_str _ _ _) F.entry_str_startswith (F.args_str_startswith_2 _ _) (gives_str_startswith a b t t') ⟨.bl _, H, I, rfl, q⟩
theorem vals_strs : ∀ {ss : List Str} {us : List Value}, Vals (ss.map V.str) us → ∃ l : List (Str × Tok), l.map (·.1) = ss ∧ us = strValues l
  | [], _, .nil => ⟨[], rfl, rfl⟩
  | z :: ss, _, .cons r rs => by
    obtain ⟨t, rfl⟩ := r
    obtain ⟨l, e1, e2⟩ := vals_strs rs
    exact ⟨(z, t) :: l, by rw [List.map_cons, e1], by rw [e2]; rfl⟩
theorem strs_vals : ∀ (l : List (Str × Tok)), Vals ((l.map (·.1)).map V.str) (strValues l)
  | [] => .nil
  | p :: l => .cons ⟨p.2, rfl⟩ (strs_vals l)
theorem mt_join : MtR X "str.join" (fun x xs H Q => ∃ (sep : Str) (a : Addr) (ss : List Str), x = .str sep ∧ xs = [.ref a] ∧ SqL X.K H a (ss.map V.str) ∧ JoinOk sep ss = true ∧ Q (.str (Txt.join sep ss)) H) := by
  intro pins s σ H x xs v us Q I rx rs h
  obtain ⟨sep, a, ss, rfl, rfl, hl, ok, q⟩ := h
  obtain ⟨t, rfl⟩ := rx
  obtain ⟨u, rfl, ru⟩ := vals1 rs
  obtain rfl : u = Value.ref a := ru
  obtain ⟨its, g, p, _⟩ := I.list hl
  obtain ⟨l, rfl, rfl⟩ := vals_strs g
  obtain ⟨o, eo, co, m, dm⟩ := p.isList
  have ok' := ok
  unfold JoinOk at ok'
  rw [Bool.not_eq_true'] at ok'
  exact call_meets F.slot_str_join (typeIs_str _ _ _) F.entry_str_join (F.args_str_join_2 _ _) (meets_str_join_list sep t a l ok') ⟨⟨o, eo, co, m, dm⟩, post_join l ⟨joinFit_length ok', fun t' k => ⟨.str _, H, I.tok _, ⟨_, rfl⟩, q⟩⟩⟩
theorem mt_split : MtR X "str.split" (fun x xs H Q => ∃ a b : Str, x = .str a ∧ xs = [.str b] ∧ (b.length == 0) = false ∧ a.length + 2 ≤ sizeLine ∧ ∀ l, H l = none → Q (.ref l) (upd H l (.lst ((Txt.split a b).map V.str)))) := by
  intro pins s σ H x xs v us Q I rx rs h
  obtain ⟨a, b, rfl, rfl, hb, ha, q⟩ := h
  obtain ⟨t, rfl⟩ := rx
  obtain ⟨u, rfl, t', rfl⟩ := vals1 rs
  have fin : ∀ (l : List (Str × Tok)) k, l.map (·.1) = Txt.split a b → wants (EP X pins σ Q) X.xe (.ok (.ret (.ref s.heap.objs.size))) { s with toks := k, heap := s.heap.push { cls := .type "list", data := .seq (strValues l).toArray } } := fun l k e => by
    refine ⟨.ref _, _, I.laid (t' := k) (o := .lst ((Txt.split a b).map V.str)) (fun b' ob q => Heap.get?_push_of_some _ q) (Nat.le_refl _) ⟨?_, strValues l, 0, by rw [← e]; exact strs_vals l, Heap.get?_push_size _ rfl⟩, rfl, q _ (I.hok.fresh (Nat.le_refl _))⟩
    rw [List.length_map]
    exact Nat.le_trans (split_le a b) ha
  have hn : (occurrences a b 0 a.length (a.length + 1)).isEmpty = false → (decide (a.length < b.length) || decide (strKind a < strKind b)) = false → (partsBetween a (occurrences a b 0 a.length (a.length + 1)) b.length).length ≤ sizeLine := fun hf h1 => by
    have := split_le a b
    unfold Txt.split at this
    rw [if_neg (ne_true_of_eq_false h1), if_neg (ne_true_of_eq_false hf)] at this
    lia
  cases h1 : (decide (a.length < b.length) || decide (strKind a < strKind b)) with
  | true => exact call_meets F.slot_str_split (typeIs_str _ _ _) F.entry_str_split (F.args_str_split_2 _ _) (meets_str_split_cannot_occur a b t t' h1) (fin [(a, t)] s.toks (if_pos h1).symm)
  | false =>
    cases hf : (occurrences a b 0 a.length (a.length + 1)).isEmpty with
    | true => exact call_meets F.slot_str_split (typeIs_str _ _ _) F.entry_str_split (F.args_str_split_2 _ _) (meets_str_split_not_found a b t t' h1 hb hf) (fin [(a, t)] s.toks ((if_neg (ne_true_of_eq_false h1)).trans (if_pos hf)).symm)
    | false =>
      refine call_meets F.slot_str_split (typeIs_str _ _ _) F.entry_str_split (F.args_str_split_2 _ _) (meets_str_split_sep a b t t' h1 hb hf (by lia) (hn hf h1)) ?_
      have := fin (numbered s.toks (partsBetween a (occurrences a b 0 a.length (a.length + 1)) b.length)) (s.toks + (partsBetween a (occurrences a b 0 a.length (a.length + 1)) b.length).length) ((numbered_texts _ _).trans ((if_neg (ne_true_of_eq_false h1)).trans (if_neg (ne_true_of_eq_false hf))).symm)
      rw [← strsFrom_eq] at this
      exact this
end
end L2
end
section
set_option maxHeartbeats 4000001
namespace L2
open PySem PySem.Spec PyProof.Rows Own Builtin Builtin.Str
def strFrom (z : Str) (k : Nat) : Str := ⟨(z.cps.toList.drop k).toArray⟩
def Its (z : Str) : It := ⟨fun i _ => i < z.length, fun i H x H' => H' = H ∧ ∃ c, z.cps[i]? = some c ∧ x = .str ⟨#[c]⟩, fun i _ => z.length ≤ i⟩
section
variable {X : Cx} {tg : Expr}
theorem sl_strFrom : SlR X (fun x lo hi H Q => ∃ (z : Str) (k : Nat), x = .str z ∧ lo = some ((k : Nat) : Int) ∧ hi = none ∧ k ≤ z.length ∧ z.length ≤ sizeLine ∧ Q (.str (strFrom z k)) H) := by
  intro pins s σ H x v vl vu lo hi sl Q I rx hs pl pu h
  obtain ⟨z, k, rfl, rfl, rfl, kl, zl, q⟩ := h
  obtain ⟨t, rfl⟩ := rx
  cases pu
  cases pl with
  | int _ tk =>
  refine ⟨"str", _, F.slot_str_getitem.lookup, typeIs_str _ _ _, ?_⟩
  refine wpAny_getItem_str_slice (l := some (((k : Nat) : Int), tk)) (u := none) (st := none) hs rfl ?_
  have e : (slicePicked z (some (((k : Nat) : Int), tk)) none none).filterMap (z.cps[·]?) = z.cps.toList.drop k := by
    unfold slicePicked
    show (strSliceIndices (some ((k : Nat) : Int)) none 1 z.length).filterMap _ = _
    rw [StrLaws.sliceIdx_none_hi, StrLaws.sliced_plain z kl (Nat.le_refl _)]
    exact List.take_of_length_le (by rw [List.length_drop]; simp [Str.length])
  have ln : (slicePicked z (some (((k : Nat) : Int), tk)) none none).length = z.length - k := by
    unfold slicePicked
    show (strSliceIndices (some ((k : Nat) : Int)) none 1 z.length).length = _
    rw [StrLaws.sliceIdx_none_hi, StrLaws.strSliceIndices_plain kl (Nat.le_refl _), List.length_map, List.length_range]
  unfold sliceMade
  by_cases w : k = 0 ∨ z.length = 0
  · have eq : (slicePicked z (some (((k : Nat) : Int), tk)) none none).length = z.length := by rw [ln]; lia
    rw [if_pos (by rw [eq]; simp)]
    have ez : strFrom z k = z := by
      unfold strFrom
      rcases w with rfl | w
      · rw [List.drop_zero]
      · have : z.cps.toList = [] := List.eq_nil_of_length_eq_zero (by simpa [Str.length] using w)
        rw [this, List.drop_nil]
        have : z.cps = #[] := Array.toList_inj.mp (by rw [this])
        cases z; simp_all
    rw [ez] at q
    exact ⟨.str z, H, I, ⟨_, rfl⟩, q⟩
  · have ne : (slicePicked z (some (((k : Nat) : Int), tk)) none none).length ≠ z.length := by rw [ln]; lia
    rw [if_neg (by simpa using ne), e]
    refine ⟨?_, .str _, H, I.tok _, ⟨_, rfl⟩, q⟩
    show (z.cps.toList.drop k).toArray.size ≤ sizeLine
    rw [List.size_toArray, List.length_drop]
    have : z.cps.toList.length = z.length := by simp [Str.length]
    lia
theorem turn_str {P : Program} {w : World} {K : PySem.W.Frag} {tg : Expr} (z : Str) (t : Tok) (it : Addr) : Turn P w K tg (Its z) [it] it (fun i h => h.IsStrIter it "str_ascii_iterator" z t i) where
  mem := by simp
  obj := fun i h st b hb => by
    have e : b = it := by simpa using hb
    subst e
    obtain ⟨o, e, c, d⟩ := st
    exact ⟨o, e, fun v y => by rw [d] at y; cases y⟩
  keep := fun i h h' st k => let ⟨o, e, r⟩ := st; ⟨o, k it (by simp) o e, r⟩
  item := by
    intro X hP hw hK hc i pins s σ H E I hf st hg
    subst hP hw hK
    have il : i < z.cps.size := hg
    obtain ⟨f0, f1, f2, f3, f4, f5⟩ := hf it (by simp)
    refine wpAny_pyNext_ascii_item st (c := z.cps[i]) (getElem?_pos z.cps i il) fun h' st' sb => ?_
    have I1 : Inv X pins σ H { s with heap := h', toks := s.toks + 1 } := I.turned (t' := s.toks + 1) (fun b o hb e => (sb.2 b hb).trans e) f0 f1 f3 f4 f5
    obtain ⟨o, e, c, d⟩ := id st'
    exact ⟨_, rfl, go_of (s := { s with heap := h', toks := s.toks + 1 }) e c d (by decide) ⟨.str ⟨#[z.cps[i]]⟩, H, I1, ⟨_, rfl⟩, ⟨rfl, _, getElem?_pos z.cps i il, rfl⟩, st', fun b hb => (hf b hb).1⟩⟩
  done := by
    intro X hP hw hK hc i pins s σ H E I hf st hg
    subst hP hw hK
    have il : z.cps.size ≤ i := hg
    obtain ⟨f0, f1, f2, f3, f4, f5⟩ := hf it (by simp)
    exact wpAny_pyNext_ascii_end (I.ok.hd hc) st (getElem?_neg z.cps i (by lia)) fun h' eb => ⟨rfl, I.turned (t' := s.toks) (fun b o hb e => eb b o hb e) f0 f1 f3 f4 f5⟩
  self := fun _ _ _ _ _ st h => wpAny_pyIter_striter_ascii st h
def iStr (tl : TE) : TI := fun σ H R => tl σ H fun x H1 => ∃ z : Str, x = .str z ∧ z.cps.all (· < 128) = true ∧ R (Its z) H1
theorem pi_str {l : Expr} {tl : TE} (hl : PE X l tl) : PI X tg l (iStr tl) := by
  intro pins s σ H R I h
  refine thn (hl pins s σ H _ I h) fun v s1 ⟨x, H1, I1, r1, q1⟩ => ?_
  obtain ⟨z, e, az, q⟩ := q1
  subst e
  obtain ⟨t, rfl⟩ := r1
  refine wpAny_pyIter_ascii az ?_
  refine ⟨s1.heap.objs.size, [s1.heap.objs.size], _, _, H1, rfl, I1.kept (t' := s1.toks) fun b o e => Heap.get?_push_of_some _ e, turn_str z t _, ⟨_, Heap.get?_push_size _ rfl, rfl, rfl⟩, fun b hb => ?_, q⟩
  have e : b = s1.heap.objs.size := by simpa using hb
  subst e
  exact I1.fpOk (Nat.le_refl _) (I1.hok.fresh (Nat.le_refl _))
theorem lc_str {z : Str} {g : TG} {te : TE} {l : Addr} {σ : St} {H : Hp} {Q : VK} (Pv : Nat → List V → St → Hp → Prop) (h0 : Pv 0 [] σ H) (hl : ∀ i acc σ H, Pv i acc σ H → H l = some (.lst acc))
    (hs : ∀ i c acc σ H, z.cps[i]? = some c → Pv i acc σ H → g (.str ⟨#[c]⟩) σ H fun σ3 H3 => te σ3 H3 fun y H5 => H5 l = some (.lst acc) ∧ acc.length < sizeLine ∧ Nx z.length i (Pv (i + 1) (acc ++ [y]) σ3 (upd H5 l (.lst (acc ++ [y])))))
    (hd : ∀ acc σ H, Pv z.length acc σ H → Q (.ref l) H) : ∃ W : Nat → Nat → List V → St → Hp → Prop, (∃ m, W 0 m [] σ H) ∧ LCW (Its z) g tYes te l Q W := by
  refine ⟨fun i m acc σ H => m = z.length - i ∧ i ≤ z.length ∧ Pv i acc σ H, ⟨_, rfl, Nat.zero_le _, h0⟩, ?_⟩
  rintro i m acc σ H ⟨rfl, hi, p⟩
  refine ⟨hl i acc σ H p, ?_⟩
  by_cases hlt : i < z.length
  · refine .inr ⟨hlt, fun x H2 ⟨e, c, ec, ex⟩ => ?_⟩
    subst e ex
    exact hs i c acc σ _ ec p
  · have e : i = z.length := by lia
    subst e
    exact .inl ⟨Nat.le_refl _, hd acc σ H p⟩
end
end L2
end
section
set_option maxHeartbeats 4000001
namespace Bn
open PySem PySem.Spec PyProof.Rows PySem.NumText
def txt (n : Int) : Str := Str.ofString (toString n)
def digs (m : Nat) : List Nat := (Nat.toDigits 10 m).map Char.toNat
theorem digs_all (m : Nat) : AllDigits (digs m) := fun c hc => by
  obtain ⟨sg, hsg, e⟩ := List.mem_map.mp hc
  rw [← e]
  exact digit_range (Nat.isDigit_of_mem_toDigits (by decide) (by decide) hsg)
theorem digs_ge (m : Nat) : 1 ≤ (digs m).length := by
  unfold digs
  rw [List.length_map]
  exact toDigits_len_ge 10 m
theorem digs_le {m k : Nat} (hk : 1 ≤ k) (h : m < 10 ^ k) : (digs m).length ≤ k := by
  unfold digs
  rw [List.length_map]
  exact toDigits_len_pow (by decide) hk h
theorem head_digit : ∀ d : Nat, d < 10 → 1 ≤ d → (Nat.digitChar d).toNat ≠ 48 := by decide
theorem digs_head {m : Nat} (h : 1 ≤ m) : ∀ r, digs m ≠ 48 :: r := by
  induction m using Nat.strongRecOn with | _ m ih => ?_
  · intro r e
    by_cases q : m < 10
    · unfold digs at e
      rw [Nat.toDigits_of_lt_base q] at e
      exact head_digit m q h (by simpa using (List.cons.inj e).1)
    · have hm : m % 10 < 10 := by lia
      have hq : 0 < m / 10 := by lia
      have t := (Nat.toDigits_append_toDigits (b := 10) (by decide) hq hm : Nat.toDigits 10 (m / 10) ++ Nat.toDigits 10 (m % 10) = _)
      rw [Nat.div_add_mod] at t
      have e2 : digs m = digs (m / 10) ++ digs (m % 10) := by unfold digs; rw [← t, List.map_append]
      rw [e2] at e
      have g := digs_ge (m / 10)
      cases hd : digs (m / 10) with
      | nil => rw [hd] at g; simp at g
      | cons c cs =>
        rw [hd] at e
        have : c = 48 := (List.cons.inj e).1
        subst this
        exact ih (m / 10) (by lia) (by lia) cs hd
theorem txt_pos (m : Nat) : (txt (m : Nat)).cps.toList = digs m := PySem.W.KIN.signs_num m
theorem txt_neg (m : Nat) (h : 1 ≤ m) : (txt (-(m : Nat))).cps.toList = 45 :: digs m := by
  obtain ⟨k, rfl⟩ : ∃ k, m = k + 1 := ⟨m - 1, by lia⟩
  have tn : toString (-((k + 1 : Nat) : Int)) = "-" ++ toString (((k + 1 : Nat) : Int)) := rfl
  unfold txt
  rw [tn]
  generalize k + 1 = m
  have : (Str.ofString ("-" ++ toString ((m : Nat) : Int))).cps.toList = (Str.ofString "-").cps.toList ++ (Str.ofString (toString ((m : Nat) : Int))).cps.toList := by
    rw [signs_ofString, signs_ofString, signs_ofString, String.toList_append, List.map_append]
  rw [this, PySem.W.KIN.signs_num]; rfl
open Builtin Builtin.Str
theorem txt_cases (n : Int) : (0 ≤ n ∧ (txt n).cps.toList = digs n.natAbs) ∨ (n < 0 ∧ (txt n).cps.toList = 45 :: digs n.natAbs) := by
  by_cases h : 0 ≤ n
  · obtain ⟨m, rfl⟩ := Int.eq_ofNat_of_zero_le h
    exact .inl ⟨h, txt_pos m⟩
  · obtain ⟨m, rfl⟩ : ∃ m : Nat, n = -(m : Nat) := ⟨n.natAbs, by lia⟩
    refine .inr ⟨by lia, ?_⟩
    rw [txt_neg m (by lia), show (-(m : Nat) : Int).natAbs = m by lia]
theorem txt_signs (n : Int) : ∀ c ∈ (txt n).cps.toList, c = 45 ∨ (48 ≤ c ∧ c ≤ 57) := fun c hc => by
  rcases txt_cases n with ⟨_, e⟩ | ⟨_, e⟩
  · rw [e] at hc; exact .inr (digs_all _ c hc)
  · rw [e] at hc
    rcases List.mem_cons.mp hc with q | q
    · exact .inl q
    · exact .inr (digs_all _ c q)
theorem ascii_of {z : Str} (h : ∀ c ∈ z.cps.toList, c < 128) : z.cps.all (· < 128) = true := by
  rw [← Array.all_toList]
  exact List.all_eq_true.mpr fun c hc => decide_eq_true (h c hc)
theorem str_len (z : Str) : z.cps.toList.length = z.length := by simp [Str.length]
theorem txt_len {n : Int} (h : n.natAbs < 10 ^ 30) : 1 ≤ (txt n).length ∧ (txt n).length ≤ 31 := by
  have g := digs_ge n.natAbs
  have l := digs_le (k := 30) (by decide) h
  rw [← str_len]
  rcases txt_cases n with ⟨_, e⟩ | ⟨_, e⟩
  · rw [e]; lia
  · rw [e, List.length_cons]; lia
def figs (n : Int) : Str := if n < 0 then L2.strFrom (txt n) 1 else txt n
theorem figs_list (n : Int) : (figs n).cps.toList = digs n.natAbs := by
  unfold figs
  rcases txt_cases n with ⟨h, e⟩ | ⟨h, e⟩
  · rw [if_neg (by lia), e]
  · rw [if_pos h]
    show (((txt n).cps.toList.drop 1).toArray).toList = _
    rw [e]; rfl
theorem starts_one (z : Str) (c : Nat) : (decide (0 + (⟨#[c]⟩ : Str).length ≤ z.length) && subAt z ⟨#[c]⟩ 0) = decide (z.cps.toList[0]? = some c) := by
  rw [Bool.eq_iff_iff, Bool.and_eq_true, decide_eq_true_eq, decide_eq_true_eq]
  exact StrLaws.subAt_one z c 0
theorem txt_zero : txt 0 = ⟨#[48]⟩ := by decide
theorem txt_reads {n : Int} (h : n.natAbs < 10 ^ 30) : intText? (txt n) = some n := by
  have l := txt_len h
  have g := digs_ge n.natAbs
  have ne : digs n.natAbs ≠ [] := fun z => by rw [z] at g; simp at g
  have v : digitsVal (digs n.natAbs) = n.natAbs := PySem.W.KIN.val_back _
  rcases txt_cases n with ⟨q, e⟩ | ⟨q, e⟩
  · rw [intText_digits (by rw [e]; exact digs_all _) (by rw [e]; exact ne) (by lia), e, v]
    congr 1; lia
  · rw [intText_neg e (digs_all _) ne (by lia), v]
    congr 1; lia
theorem cut_unique {c : Nat} : ∀ {a b r t : List Nat}, c ∉ a → c ∉ b → a ++ c :: r = b ++ c :: t → a = b ∧ r = t
  | [], [], r, t, _, _, e => ⟨rfl, (List.cons.inj e).2⟩
  | [], y :: b, r, t, _, hb, e => absurd (by rw [(List.cons.inj e).1]; exact List.mem_cons_self) hb
  | x :: a, [], r, t, ha, _, e => absurd (by rw [← (List.cons.inj e).1]; exact List.mem_cons_self) ha
  | x :: a, y :: b, r, t, ha, hb, e => by
    obtain ⟨e1, e2⟩ := List.cons.inj e
    obtain ⟨p, q⟩ := cut_unique (fun z => ha (List.mem_cons_of_mem _ z)) (fun z => hb (List.mem_cons_of_mem _ z)) e2
    exact ⟨by rw [e1, p], q⟩
theorem join_unique {c : Nat} : ∀ {as bs : List Str}, as ≠ [] → bs ≠ [] → (∀ a ∈ as, c ∉ a.cps.toList) → (∀ b ∈ bs, c ∉ b.cps.toList) → Str.join ⟨#[c]⟩ as = Str.join ⟨#[c]⟩ bs → as = bs
  | [], _, h, _, _, _, _ => absurd rfl h
  | _, [], _, h, _, _, _ => absurd rfl h
  | [a], [b], _, _, _, _, e => by rw [show a = b from e]
  | [a], b :: b2 :: t, _, _, ha, _, e => by
    have e' : a = b ++ ⟨#[c]⟩ ++ Str.join ⟨#[c]⟩ (b2 :: t) := e
    refine absurd ?_ (ha a List.mem_cons_self)
    rw [e', Str.cps_append, Str.cps_append]; simp
  | a :: a2 :: r, [b], _, _, _, hb, e => by
    have e' : a ++ ⟨#[c]⟩ ++ Str.join ⟨#[c]⟩ (a2 :: r) = b := e
    refine absurd ?_ (hb b List.mem_cons_self)
    rw [← e', Str.cps_append, Str.cps_append]; simp
  | a :: a2 :: r, b :: b2 :: t, _, _, ha, hb, e => by
    have e' : a ++ ⟨#[c]⟩ ++ Str.join ⟨#[c]⟩ (a2 :: r) = b ++ ⟨#[c]⟩ ++ Str.join ⟨#[c]⟩ (b2 :: t) := e
    have e2 := congrArg (fun z : Str => z.cps.toList) e'
    simp only [Str.cps_append, Array.toList_append, List.append_assoc] at e2
    obtain ⟨p, q⟩ := cut_unique (c := c) (ha a List.mem_cons_self) (hb b List.mem_cons_self) e2
    have ea : a = b := Str.ext' (Array.toList_inj.mp p)
    have er : Str.join ⟨#[c]⟩ (a2 :: r) = Str.join ⟨#[c]⟩ (b2 :: t) := Str.ext' (Array.toList_inj.mp q)
    rw [ea, join_unique (by simp) (by simp) (fun x hx => ha x (List.mem_cons_of_mem _ hx)) (fun x hx => hb x (List.mem_cons_of_mem _ hx)) er]
end Bn
namespace L2
open PySem PySem.Spec PyProof.Rows Own PySem.NumText
section
variable {X : Cx}
theorem call_intText : CallR X (.type "int") (fun vs H Q => ∃ (x : Str) (n : Int), vs = [.str x] ∧ intText? x = some n ∧ x.length ≤ 640 ∧ Q (.int n) H) := by
  rintro pins s σ H vs us Q I rv ⟨x, n, rfl, hn, h6, q⟩
  obtain ⟨u, rfl, t, rfl⟩ := rv.one
  exact PySem.W.KIN.call_text hn h6 ⟨.int _, H, I.tok _, ⟨_, rfl⟩, q⟩
end
end L2
end
section
set_option maxHeartbeats 4000001
namespace L2
open PySem PySem.Spec PyProof.Rows Own
section
variable {X : Cx}
theorem ps_dead {st : Stmt} : PS X st (fun _ _ _ => False) := fun _ _ _ _ _ _ h => h.elim
end
def AnyT (K : PySem.W.Frag) (H : Hp) (x : V) : Prop := ∃ T, TyOf K H x T ∧ ∃ t : String, T = .type t
def wholeV : V → Bool
  | .int _ => true
  | _ => false
def belowV (b : Int) : V → Bool
  | .int i => decide (0 ≤ i) && decide (i < b)
  | _ => false
def rowOf (H : Hp) : V → Option (List V)
  | .ref a => match H a with
    | some (.tup xs) => some xs
    | _ => none
  | _ => none
def rowV (H : Hp) (m : Int) (x : V) : Bool := match rowOf H x with
  | some xs => decide ((xs.length : Int) = m)
  | none => false
theorem rowOf_tup {H : Hp} {a : Addr} {xs : List V} (h : H a = some (.tup xs)) : rowOf H (.ref a) = some xs := by
  show (match H a with
    | some (.tup xs) => some xs
    | _ => none) = _
  rw [h]
theorem rowOf_some {H : Hp} {x : V} {xs : List V} (h : rowOf H x = some xs) : ∃ a, x = .ref a ∧ H a = some (.tup xs) := by
  cases x with
  | ref a =>
    refine ⟨a, rfl, ?_⟩
    cases z : H a with
    | none => simp [rowOf, z] at h
    | some o => cases o <;> simp [rowOf, z] at h; rw [h]
  | _ => cases h
theorem int_dec (i j : Int) : decide (V.int i = V.int j) = decide (i = j) := by
  by_cases e : i = j
  · rw [decide_eq_true e, decide_eq_true (congrArg V.int e)]
  · rw [decide_eq_false e, decide_eq_false (fun z => e (V.int.inj z))]
theorem AnyT.same {K : PySem.W.Frag} {H H' : Hp} {x : V} (s : ∀ b o, H b = some o → H' b = some o) (h : AnyT K H x) : AnyT K H' x := by
  obtain ⟨T, h, t, et⟩ := h
  cases h with
  | non => exact ⟨_, .non, _, rfl⟩
  | bl b => exact ⟨_, .bl b, _, rfl⟩
  | int i => exact ⟨_, .int i, _, rfl⟩
  | str x => exact ⟨_, .str x, _, rfl⟩
  | flt x => exact ⟨_, .flt x, _, rfl⟩
  | lst e => exact ⟨_, .lst (s _ _ e), _, rfl⟩
  | frz e => exact ⟨_, .frz (s _ _ e), _, rfl⟩
  | tup e => exact ⟨_, .tup (s _ _ e), _, rfl⟩
  | dK e => exact ⟨_, .dK (s _ _ e), _, rfl⟩
  | dT e => exact ⟨_, .dT (s _ _ e), _, rfl⟩
  | ins e _ _ _ _ _ => cases et
structure Isi (K : PySem.W.Frag) (H : Hp) (x : V) (t : Value) : Prop where
  ty : TyOf K H x t
  int : PySem.W.kitOne K t (.type "int") = some (match x with | .int _ => true | .bl _ => true | _ => false)
  bool : PySem.W.kitOne K t (.type "bool") = some (match x with | .bl _ => true | _ => false)
  str : PySem.W.kitOne K t (.type "str") = some (match x with | .str _ => true | _ => false)
  tup : PySem.W.kitOne K t (.type "tuple") = some (rowOf H x).isSome
theorem isi_mk {K : PySem.W.Frag} {H : Hp} {x : V} {T : Value} (h : TyOf K H x T) (et : ∃ t, T = .type t) : Isi K H x T := by
  cases h with
  | ins e _ _ _ _ _ => obtain ⟨t, et⟩ := et; cases et
  | lst e => exact ⟨.lst e, rfl, rfl, rfl, by simp only [rowOf, e]; rfl⟩
  | frz e => exact ⟨.frz e, rfl, rfl, rfl, by simp only [rowOf, e]; rfl⟩
  | tup e => exact ⟨.tup e, rfl, rfl, rfl, by simp only [rowOf, e]; rfl⟩
  | dK e => exact ⟨.dK e, rfl, rfl, rfl, by simp only [rowOf, e]; rfl⟩
  | dT e => exact ⟨.dT e, rfl, rfl, rfl, by simp only [rowOf, e]; rfl⟩
  | non => exact ⟨.non, rfl, rfl, rfl, rfl⟩
  | bl b => exact ⟨.bl b, rfl, rfl, rfl, rfl⟩
  | int i => exact ⟨.int i, rfl, rfl, rfl, rfl⟩
  | str x => exact ⟨.str x, rfl, rfl, rfl, rfl⟩
  | flt x => exact ⟨.flt x, rfl, rfl, rfl, rfl⟩
theorem AnyT.isi {K : PySem.W.Frag} {H : Hp} {x : V} (h : AnyT K H x) : ∃ t, Isi K H x t :=
  let ⟨T, h, et⟩ := h
  ⟨T, isi_mk h et⟩
end L2
end
section
set_option maxHeartbeats 4000001
namespace K77
open PySem L2 Own Bn
abbrev sNumIn : Stmt := top 29
abbrev sNumsIn : Stmt := top 28
def valO : Option Int → V
  | some n => .int n
  | none => .non
theorem s_minus : Str.ofString "-" = ⟨#[45]⟩ := by decide
theorem s_nought : Str.ofString "0" = ⟨#[48]⟩ := by decide
section
variable {P : Program} {w : World} {K : PySem.W.Frag} {mg : Str → Option Value} {base : Heap}
theorem scNi : FnScope ["word", "figures"] ["word"] (defScope sNumIn) := ⟨rfl, rfl, rfl, by decide +kernel, rfl, by decide +kernel, by decide +kernel⟩
theorem scNs : FnScope ["words"] ["words"] (defScope sNumsIn) := ⟨rfl, rfl, rfl, by decide +kernel, rfl, by decide +kernel, by decide +kernel⟩
end
end K77
end
section
set_option maxHeartbeats 4000001
namespace Bn
open PySem L2 Own
end Bn
end
section
set_option maxHeartbeats 4000001
namespace Bn
open PySem L2 Own
def big (x y : Int) : Int := if y > x then y else x
def layStep (st : List Int × List Int) (f : Nat × Nat) : List Int × List Int :=
  ((st.1.set f.1 (1 + big (st.1.getD f.1 0) (st.1.getD f.2 0))).set f.2 (1 + big (st.1.getD f.1 0) (st.1.getD f.2 0)), st.2 ++ [1 + big (st.1.getD f.1 0) (st.1.getD f.2 0)])
def lay (n : Nat) (fs : List (Nat × Nat)) : List Int × List Int := fs.foldl layStep (List.replicate n 0, [])
theorem lay_take {n : Nat} {fs : List (Nat × Nat)} {i : Nat} {f : Nat × Nat} (h : fs[i]? = some f) : lay n (fs.take (i + 1)) = layStep (lay n (fs.take i)) f := by
  have w := List.getElem?_eq_some_iff.mp h
  rw [List.take_succ_eq_append_getElem w.1, w.2]
  unfold lay
  rw [List.foldl_append]; rfl
theorem lay_lens {n : Nat} : ∀ (i : Nat) (fs : List (Nat × Nat)), i ≤ fs.length → (lay n (fs.take i)).1.length = n ∧ (lay n (fs.take i)).2.length = i
  | 0, fs, _ => by simp [lay]
  | i + 1, fs, h => by
    have ih := lay_lens (n := n) i fs (by lia)
    rw [lay_take (List.getElem?_eq_getElem (by lia))]
    unfold layStep
    simp [ih.1, ih.2]
def meets (g f : Nat × Nat) : Bool := decide (g.1 = f.1 ∨ g.1 = f.2) || decide (g.2 = f.1 ∨ g.2 = f.2)
def ahead (fs : List (Nat × Nat)) (fo : List Int) (f : Nat × Nat) (i : Nat) : List Int := ((List.range i).filter fun j => meets (fs.getD j (0, 0)) f).map fun j => fo.getD j 0
def layers (N : Nt) : List Int := (lay N.lanes N.forks).2
theorem layers_len (N : Nt) : (layers N).length = N.forks.length := by
  have := (lay_lens (n := N.lanes) N.forks.length N.forks (Nat.le_refl _)).2
  rwa [List.take_length] at this
end Bn
end
section
set_option maxHeartbeats 4000001
namespace Bn
open PySem L2 Own
abbrev Fk := Nat × Nat
def run {σ α : Type} (step : σ → Fk → σ × α) : σ → List Fk → σ × List (α × Fk)
  | s, [] => (s, [])
  | s, f :: fs => ((run step (step s f).1 fs).1, ((step s f).2, f) :: (run step (step s f).1 fs).2)
theorem run_forks {σ α : Type} (step : σ → Fk → σ × α) : ∀ (s : σ) (fs : List Fk), (run step s fs).2.map Prod.snd = fs
  | _, [] => rfl
  | s, f :: fs => by
    show f :: ((run step (step s f).1 fs).2.map Prod.snd) = f :: fs
    rw [run_forks step]
def layS (re : List Int) (f : Fk) : List Int × Int := ((re.set f.1 (1 + big (re.getD f.1 0) (re.getD f.2 0))).set f.2 (1 + big (re.getD f.1 0) (re.getD f.2 0)), 1 + big (re.getD f.1 0) (re.getD f.2 0))
theorem lay_run : ∀ (fs : List Fk) (re fo : List Int), fs.foldl layStep (re, fo) = ((run layS re fs).1, fo ++ (run layS re fs).2.map Prod.fst)
  | [], re, fo => by
    show (re, fo) = (re, fo ++ [])
    rw [List.append_nil]
  | f :: fs, re, fo => by
    rw [List.foldl_cons]
    show fs.foldl layStep ((layS re f).1, fo ++ [(layS re f).2]) = _
    rw [lay_run fs]
    show (_, fo ++ [(layS re f).2] ++ _) = (_, fo ++ ((layS re f).2 :: _))
    rw [List.append_assoc]; rfl
def pz (N : Nt) : List (Int × Fk) := (run layS (List.replicate N.lanes 0) N.forks).2
theorem pz_layers (N : Nt) : (pz N).map Prod.fst = layers N := by
  unfold layers lay pz
  rw [lay_run]; rfl
theorem pz_forks (N : Nt) : (pz N).map Prod.snd = N.forks := run_forks _ _ _
def rnk (x : Int × Fk) : Int := x.1 * 1024 + x.2.1 * 32 + x.2.2
def ins (x : Int × Fk) : List (Int × Fk) → List (Int × Fk)
  | [] => [x]
  | y :: l => if rnk x ≤ rnk y then x :: y :: l else y :: ins x l
def isort : List (Int × Fk) → List (Int × Fk)
  | [] => []
  | x :: l => ins x (isort l)
theorem insP (x : Int × Fk) : ∀ l, (ins x l).Perm (x :: l)
  | [] => .refl _
  | y :: l => by
    unfold ins
    split
    · exact .refl _
    · exact ((insP x l).cons y).trans (List.Perm.swap x y l)
theorem isort_perm : ∀ l, (isort l).Perm l
  | [] => .refl _
  | x :: l => (insP x _).trans ((isort_perm l).cons x)
theorem ins_sorted (x : Int × Fk) : ∀ l : List (Int × Fk), l.Pairwise (fun a b => rnk a ≤ rnk b) → (ins x l).Pairwise (fun a b => rnk a ≤ rnk b)
  | [], _ => List.pairwise_singleton _ _
  | y :: l, h => by
    obtain ⟨h1, h2⟩ := List.pairwise_cons.mp (id h)
    unfold ins
    split
    · next le =>
      refine List.pairwise_cons.mpr ⟨fun z hz => ?_, h⟩
      rcases List.mem_cons.mp hz with rfl | hz2
      · exact le
      · exact Int.le_trans le (h1 z hz2)
    · next gt =>
      refine List.pairwise_cons.mpr ⟨fun z hz => ?_, ins_sorted x l h2⟩
      rcases List.mem_cons.mp ((insP x l).mem_iff.mp hz) with rfl | hz
      · lia
      · exact h1 z hz
theorem isort_sorted : ∀ l, (isort l).Pairwise (fun a b => rnk a ≤ rnk b)
  | [] => List.Pairwise.nil
  | x :: l => ins_sorted x _ (isort_sorted l)
theorem sorted_unique {a b : List (Int × Fk)} (p : a.Perm b) (bd : ∀ y ∈ b, y.2.1 < 32 ∧ y.2.2 < 32) (sa : a.Pairwise (fun x y => rnk x ≤ rnk y)) (sb : b.Pairwise (fun x y => rnk x ≤ rnk y)) : a = b := by
  refine List.Perm.eq_of_pairwise (le := fun x y => rnk x ≤ rnk y) (fun x y hx hy h1 h2 => ?_) sa sb p
  have bx := bd x (p.mem_iff.mp hx)
  have by' := bd y hy
  obtain ⟨x1, x2, x3⟩ := x
  obtain ⟨y1, y2, y3⟩ := y
  unfold rnk at h1 h2
  simp only at h1 h2 bx by'
  have e1 : x1 = y1 := by lia
  have e2 : x2 = y2 := by lia
  have e3 : x3 = y3 := by lia
  rw [e1, e2, e3]
def plainF (N : Nt) : List Fk := (isort (pz N)).map Prod.snd
def plainN (N : Nt) : Nt := ⟨N.lanes, plainF N, N.ends⟩
theorem pz_mem {N : Nt} {y : Int × Fk} (h : y ∈ pz N) : y.2 ∈ N.forks := by
  rw [← pz_forks N]; exact List.mem_map.mpr ⟨y, h, rfl⟩
theorem pz_low {N : Nt} (ok : N.Ok) : ∀ y ∈ pz N, y.2.1 < 32 ∧ y.2.2 < 32 := fun y hy => by
  have := ok.fk y.2 (pz_mem hy)
  have := ok.l16
  lia
theorem plain_perm (N : Nt) : (plainF N).Perm N.forks := by
  have := (isort_perm (pz N)).map Prod.snd
  rwa [pz_forks] at this
theorem plain_ok {N : Nt} (ok : N.Ok) : (plainN N).Ok := ⟨ok.l1, ok.l16, by
  show (plainF N).length ≤ 128
  rw [(plain_perm N).length_eq]; exact ok.fm, fun f hf => ok.fk f ((plain_perm N).mem_iff.mp hf), ok.en⟩
theorem plain_of_sorted {N : Nt} (ok : N.Ok) {zs : List (Int × Fk)} (p : zs.Perm (pz N)) (so : zs.Pairwise (fun a b => rnk a ≤ rnk b)) : zs = isort (pz N) :=
  sorted_unique (p.trans (isort_perm _).symm) (fun y hy => pz_low ok y ((isort_perm _).mem_iff.mp hy)) so (isort_sorted _)
end Bn
end
section
set_option maxHeartbeats 4000001
namespace Bn
open PySem L2 Own
end Bn
end
section
set_option maxHeartbeats 4000001
namespace Ts
open PySem PyProof.Rows
structure Cmp (prog : Program) (w : World) (A : Around) (s : Shared) (κ : SortKind) (P : Keyed → Prop) (rk : Keyed → Int) : Prop where
  ask : ∀ (x y : Keyed), P x → P y → ∀ {Q : Bool → Shared → Prop} {E : Value → Shared → Prop}, Q (decide (rk x < rk y)) s → wpAny (model prog w) A (keyLt' κ x.1 y.1) Q E s
def R (rk : Keyed → Int) (xs : Array Keyed) (i : Nat) : Int := match xs[i]? with
  | some p => rk p
  | none => 0
theorem R_congr {rk : Keyed → Int} {xs ys : Array Keyed} {i j : Nat} (h : xs[i]? = ys[j]?) : R rk xs i = R rk ys j := by unfold R; rw [h]
def Up (rk : Keyed → Int) (xs : Array Keyed) (lo n : Nat) : Prop := ∀ i j, lo ≤ i → i ≤ j → j < lo + n → R rk xs i ≤ R rk xs j
def Dn (rk : Keyed → Int) (xs : Array Keyed) (lo n : Nat) : Prop := ∀ i j, lo ≤ i → i ≤ j → j < lo + n → R rk xs j ≤ R rk xs i
structure Bs (κ : SortKind) (P : Keyed → Prop) (a₀ : Array Keyed) (st : SortSt) : Prop where
  kind : kindOf st = κ
  fail : failedOf st = none
  perm : (arrOf st).Perm a₀
  all : ∀ p ∈ a₀.toList, P p
theorem Bs.size {κ : SortKind} {P : Keyed → Prop} {a₀ : Array Keyed} {st : SortSt} (h : Bs κ P a₀ st) : (arrOf st).size = a₀.size := h.perm.size_eq
theorem Bs.at {κ : SortKind} {P : Keyed → Prop} {a₀ : Array Keyed} {st : SortSt} (h : Bs κ P a₀ st) {i : Nat} (hi : i < a₀.size) (rk : Keyed → Int) : ∃ p, (arrOf st)[i]? = some p ∧ P p ∧ R rk (arrOf st) i = rk p := by
  have e : (arrOf st)[i]? = some ((arrOf st)[i]'(by rw [h.size]; exact hi)) := getElem?_pos (arrOf st) i (by rw [h.size]; exact hi)
  refine ⟨_, e, h.all _ ((Array.perm_iff_toList_perm.mp h.perm).mem_iff.mp (by simp)), ?_⟩
  unfold R; rw [e]
theorem Bs.arr {κ : SortKind} {P : Keyed → Prop} {a₀ : Array Keyed} {st : SortSt} (h : Bs κ P a₀ st) {xs : Array Keyed} (hp : xs.Perm (arrOf st)) : Bs κ P a₀ (setArr st xs) := ⟨h.kind, h.fail, hp.trans h.perm, h.all⟩
section
variable {prog : Program} {w : World} {A : Around} {E : Value → Shared → Prop} {s : Shared} {κ : SortKind} {P : Keyed → Prop} {rk : Keyed → Int} {a₀ : Array Keyed}
theorem lt_of (C : Cmp prog w A s κ P rk) {st : SortSt} {x y : Keyed} {Q : Option Bool → SortSt → Prop} (hk : kindOf st = κ) (px : P x) (py : P y) (h : Q (some (decide (rk x < rk y))) st) : wpS (model prog w) A E s (lt' x y) Q st := by
  rw [lt'_eq]
  refine wpS_bind (wpS_get (wpS_bind (wpS_lift (wpAny_attempt ?_))))
  rw [hk]
  exact C.ask x y px py ⟨rfl, wpS_pure h⟩
theorem rule_of {r : String} {st : SortSt} {Q : Unit → SortSt → Prop} (h : Q () st) : wpS (model prog w) A E s (liftM (rule r) : StateT SortSt Sem Unit) Q st := wpS_lift (wpAny_rule ⟨rfl, h⟩)
theorem elem_of {st : SortSt} {arr : Array Keyed} {i : Nat} {p : Keyed} {Q : Keyed → SortSt → Prop} (e : arr[i]? = some p) (h : Q p st) : wpS (model prog w) A E s (elem' arr i) Q st := by
  rw [elem'_eq, e]; exact wpS_pure h
theorem lt_at (C : Cmp prog w A s κ P rk) {st : SortSt} {i j : Nat} {Q : Option Bool → SortSt → Prop} (hB : Bs κ P a₀ st) (hi : i < a₀.size) (hj : j < a₀.size) (h : Q (some (decide (R rk (arrOf st) i < R rk (arrOf st) j))) st) : wpS (model prog w) A E s (ltAt' i j) Q st := by
  obtain ⟨p, e1, pp, r1⟩ := hB.at hi rk
  obtain ⟨q, e2, pq, r2⟩ := hB.at hj rk
  rw [r1, r2] at h
  rw [ltAt'_eq]
  exact wpS_bind (wpS_get (wpS_bind (elem_of e1 (wpS_bind (elem_of e2 (lt_of C hB.kind pp pq h))))))
structure Keep (κ : SortKind) (P : Keyed → Prop) (rk : Keyed → Int) (a₀ : Array Keyed) (lo : Nat) (st st' : SortSt) : Prop where
  b : Bs κ P a₀ st'
  pend : pendingOf st' = pendingOf st
  low : ∀ k, k < lo → R rk (arrOf st') k = R rk (arrOf st) k
theorem Keep.refl {lo : Nat} {st : SortSt} (h : Bs κ P a₀ st) : Keep κ P rk a₀ lo st st := ⟨h, rfl, fun _ _ => rfl⟩
theorem Keep.trans {lo : Nat} {st st1 st2 : SortSt} (h : Keep κ P rk a₀ lo st st1) (g : Keep κ P rk a₀ lo st1 st2) : Keep κ P rk a₀ lo st st2 := ⟨g.b, g.pend.trans h.pend, fun k hk => (g.low k hk).trans (h.low k hk)⟩
theorem R_mirror {xs : Array Keyed} {i j : Nat} (hj : j ≤ xs.size) (k : Nat) : R rk (mirror xs i j ((j - i) / 2)) k = if i ≤ k ∧ k < j then R rk xs (i + j - 1 - k) else R rk xs k := by
  have e := getElem?_mirror_all (xs := xs) (i := i) hj k
  split at e
  · next h => rw [if_pos h]; exact R_congr e
  · next h => rw [if_neg h]; exact R_congr e
theorem rev_of {lo i j : Nat} {st : SortSt} {Q : Unit → SortSt → Prop} (hB : Bs κ P a₀ st) (hl : lo ≤ i) (hj : j ≤ a₀.size)
    (h : ∀ st', Keep κ P rk a₀ lo st st' → (∀ k, R rk (arrOf st') k = if i ≤ k ∧ k < j then R rk (arrOf st) (i + j - 1 - k) else R rk (arrOf st) k) → Q () st') : wpS (model prog w) A E s (reverseSlice' i j) Q st := by
  rw [reverseSlice'_eq]
  refine wpS_modify (h _ ⟨hB.arr (mirror_perm _ _ _ _), rfl, fun k hk => ?_⟩ fun k => ?_)
  · show R rk (mirror (arrOf st) i j ((j - i) / 2)) k = _
    rw [R_mirror (by rw [hB.size]; exact hj), if_neg (by lia)]
  · exact R_mirror (by rw [hB.size]; exact hj) k
theorem count_ok (C : Cmp prog w A s κ P rk) {st : SortSt} {lo nrem : Nat} {Q : Option Nat → SortSt → Prop} (hB : Bs κ P a₀ st) (h1 : 1 ≤ nrem) (hn : lo + nrem ≤ a₀.size)
    (h : ∀ st' m, Keep κ P rk a₀ lo st st' → 1 ≤ m → m ≤ nrem → Up rk (arrOf st') lo m → Q (some m) st') : wpS (model prog w) A E s (countRun' lo nrem) Q st := by
  have asc : ∀ (st : SortSt) (n0 : Nat) {Q' : Option (Option Nat) × Nat → SortSt → Prop}, Bs κ P a₀ st → 1 ≤ n0 → Up rk (arrOf st) lo n0 →
      (∀ n, n0 ≤ n → n ≤ max n0 nrem → Up rk (arrOf st) lo n → (n < nrem → R rk (arrOf st) (lo + n) < R rk (arrOf st) (lo + n - 1)) → Q' (none, n) st) → 
      ∀ f : Nat → Option (Option Nat) × Nat → StateT SortSt Sem (ForInStep (Option (Option Nat) × Nat)), (∀ i n, f i (none, n) = (do
        let some smaller ← ltAt' (lo + n) (lo + n - 1) | pure (.done (some none, n))
        if smaller then pure (.done (none, n)) else pure (.yield (none, n + 1)))) → wpS (model prog w) A E s (forIn [n0:nrem] (none, n0) f) Q' st := by
    intro st n0 Q' hB h0 hu hq f hf
    refine wpS_forRange (I := fun i c st' => st' = st ∧ c = (none, i) ∧ n0 ≤ i ∧ Up rk (arrOf st) lo i) ?_ ?_ ⟨rfl, rfl, Nat.le_refl _, hu⟩
    · rintro i c st' hi hi2 ⟨rfl, rfl, h3, hu'⟩
      rw [hf]
      refine wpS_bind (lt_at C hB (by lia) (by lia) ?_)
      by_cases z : R rk (arrOf st') (lo + i) < R rk (arrOf st') (lo + i - 1)
      · rw [decide_eq_true z]
        exact wpS_pure (hq i h3 (by lia) hu' fun _ => z)
      · rw [decide_eq_false z]
        refine wpS_pure ⟨rfl, rfl, by lia, fun a b ha hab hb => ?_⟩
        by_cases q : b < lo + i
        · exact hu' a b ha hab q
        · obtain rfl : b = lo + i := by lia
          by_cases q2 : a = lo + i
          · rw [q2]; exact Int.le_refl _
          · have := hu' a (lo + i - 1) ha (by lia) (by lia)
            lia
    · rintro c st' ⟨rfl, rfl, h3, hu'⟩
      exact hq _ h3 (Nat.le_refl _) hu' fun q => by lia
  rw [countRun'_eq]
  refine wpS_bind (asc st 1 hB (Nat.le_refl _) (fun a b h1 h2 h3 => by rw [show a = b by lia]; exact Int.le_refl _) (fun n n1 n2 hu hs => ?_) _ (fun i n => rfl))
  dsimp only
  by_cases z : n = nrem
  · subst z
    rw [if_pos (beq_self_eq_true _)]
    exact wpS_pure (h _ _ (Keep.refl hB) n1 (Nat.le_refl _) hu)
  rw [if_neg (by simpa using z)]
  have nl : n < nrem := by lia
  have hs := hs nl
  generalize hT : (bind (liftM (rule "list.sort.descending-run")) _ : StateT SortSt Sem (Option Nat)) = T
  have tail : ∀ st1, Keep κ P rk a₀ lo st st1 → Dn rk (arrOf st1) lo n → R rk (arrOf st1) (lo + n) < R rk (arrOf st1) (lo + n - 1) → wpS (model prog w) A E s T Q st1 := by
    intro st1 K1 d1 l1
    rw [← hT]
    refine wpS_bind (rule_of ?_)
    have last : ∀ st2 m, Keep κ P rk a₀ lo st st2 → 1 ≤ m → m ≤ nrem → Dn rk (arrOf st2) lo m → ∀ st3, Keep κ P rk a₀ lo st2 st3 → (∀ k, R rk (arrOf st3) k = if lo ≤ k ∧ k < lo + m then R rk (arrOf st2) (lo + (lo + m) - 1 - k) else R rk (arrOf st2) k) → Up rk (arrOf st3) lo m := by
      intro st2 m K2 m1 m2 d2 st3 K3 r3 a b ha hab hb
      rw [r3, r3, if_pos ⟨by lia, by lia⟩, if_pos ⟨by lia, by lia⟩]
      exact d2 _ _ (by lia) (by lia) (by lia)
    refine wpS_bind (wpS_mono (wpS_forRange (I := fun i c st2 => ∃ m q, c = (none, m, q) ∧ m = i ∧ q + 1 ≤ m ∧ Keep κ P rk a₀ lo st st2 ∧ (i ≤ nrem → Dn rk (arrOf st2) lo m ∧ ∀ k, lo + m - (q + 1) ≤ k → k < lo + m → R rk (arrOf st2) k = R rk (arrOf st2) (lo + m - 1)))
      (Q := fun c st2 => ∃ m q, c = (none, m, q) ∧ 1 ≤ m ∧ m ≤ nrem ∧ q + 1 ≤ m ∧ Keep κ P rk a₀ lo st st2 ∧ Dn rk (arrOf st2) lo m ∧ ∀ k, lo + m - (q + 1) ≤ k → k < lo + m → R rk (arrOf st2) k = R rk (arrOf st2) (lo + m - 1)) ?step ?fin ?init) ?post)
    case init =>
      refine ⟨n + 1, 0, rfl, rfl, by lia, K1, fun _ => ⟨fun a b ha hab hb => ?_, fun k k1 k2 => by rw [show k = lo + (n + 1) - 1 by lia]⟩⟩
      by_cases q : b < lo + n
      · exact d1 a b ha hab q
      · obtain rfl : b = lo + n := by lia
        by_cases q2 : a = lo + n
        · rw [q2]; exact Int.le_refl _
        · have := d1 a (lo + n - 1) ha (by lia) (by lia)
          lia
    case fin =>
      rintro c st2 ⟨m, q, rfl, e, hq, K2, hd⟩
      obtain ⟨d2, eq2⟩ := hd (by lia)
      exact ⟨m, q, rfl, by lia, by lia, hq, K2, d2, eq2⟩
    case step =>
      rintro i c st2 hi hi2 ⟨m, q, rfl, rfl, hq, K2, hd⟩
      obtain ⟨d2, eq2⟩ := hd (by lia)
      dsimp only
      refine wpS_bind (lt_at C K2.b (by lia) (by lia) ?_)
      have more : ∀ st3, Dn rk (arrOf st3) lo m → R rk (arrOf st3) (lo + m) ≤ R rk (arrOf st3) (lo + m - 1) → Dn rk (arrOf st3) lo (m + 1) := by
        intro st3 d3 le a b ha hab hb
        by_cases q : b < lo + m
        · exact d3 a b ha hab q
        · obtain rfl : b = lo + m := by lia
          by_cases q2 : a = lo + m
          · rw [q2]; exact Int.le_refl _
          · have := d3 a (lo + m - 1) ha (by lia) (by lia)
            lia
      by_cases z1 : R rk (arrOf st2) (lo + m) < R rk (arrOf st2) (lo + m - 1)
      · rw [decide_eq_true z1]
        dsimp only
        rw [if_pos rfl]
        by_cases zq : q > 0
        · rw [if_pos zq]
          refine wpS_bind (rev_of (rk := rk) (lo := lo) K2.b (by lia) (by lia) fun st3 K3 r3 => wpS_pure ?_)
          have same : ∀ k, R rk (arrOf st3) k = R rk (arrOf st2) k := fun k => by
            rw [r3]
            split
            · rw [eq2 _ (by lia) (by lia), eq2 k (by lia) (by lia)]
            · rfl
          refine ⟨m + 1, 0, rfl, rfl, by lia, K2.trans K3, fun _ => ⟨more st3 (fun a b ha hab hb => by rw [same, same]; exact d2 a b ha hab hb) (by rw [same, same]; lia), fun k k1 k2 => by rw [show k = lo + (m + 1) - 1 by lia]⟩⟩
        · rw [if_neg zq]
          exact wpS_pure ⟨m + 1, 0, rfl, rfl, by lia, K2, fun _ => ⟨more st2 d2 (by lia), fun k k1 k2 => by rw [show k = lo + (m + 1) - 1 by lia]⟩⟩
      · rw [decide_eq_false z1]
        dsimp only
        rw [if_neg Bool.false_ne_true]
        refine wpS_bind (lt_at C K2.b (by lia) (by lia) ?_)
        by_cases z2 : R rk (arrOf st2) (lo + m - 1) < R rk (arrOf st2) (lo + m)
        · rw [decide_eq_true z2]
          dsimp only
          rw [if_pos rfl]
          exact wpS_pure ⟨m, q, rfl, by lia, by lia, hq, K2, d2, eq2⟩
        · rw [decide_eq_false z2]
          dsimp only
          rw [if_neg Bool.false_ne_true]
          have e : R rk (arrOf st2) (lo + m) = R rk (arrOf st2) (lo + m - 1) := by lia
          refine wpS_pure ⟨m + 1, q + 1, rfl, rfl, by lia, K2, fun _ => ⟨more st2 d2 (by lia), fun k k1 k2 => ?_⟩⟩
          rw [show lo + (m + 1) - 1 = lo + m by lia]
          by_cases q3 : k = lo + m
          · rw [q3]
          · rw [eq2 k (by lia) (by lia), e]
    case post =>
      rintro c st2 ⟨m, q, rfl, m1, m2, hq, K2, d2, eq2⟩
      dsimp only
      generalize hT2 : (bind (reverseSlice' lo (lo + m)) _ : StateT SortSt Sem (Option Nat)) = T2
      have on : ∀ st3, Keep κ P rk a₀ lo st st3 → Dn rk (arrOf st3) lo m → wpS (model prog w) A E s T2 Q st3 := by
        intro st3 K3 d3
        rw [← hT2]
        refine wpS_bind (rev_of (rk := rk) (lo := lo) K3.b (by lia) (by lia) fun st4 K4 r4 => ?_)
        refine wpS_bind (asc st4 m K4.b m1 (last st3 m K3 m1 m2 d3 st4 K4 r4) (fun n' a1 a2 hu' _ => ?_) _ (fun i n => rfl))
        exact wpS_pure (h _ _ (K3.trans K4) (by lia) (by lia) hu')
      by_cases zq : q > 0
      · rw [if_pos zq]
        refine wpS_bind (rev_of (rk := rk) (lo := lo) K2.b (by lia) (by lia) fun st3 K3 r3 => ?_)
        have same : ∀ k, R rk (arrOf st3) k = R rk (arrOf st2) k := fun k => by
          rw [r3]
          split
          · rw [eq2 _ (by lia) (by lia), eq2 k (by lia) (by lia)]
          · rfl
        exact on st3 (K2.trans K3) (fun a b ha hab hb => by rw [same, same]; exact d2 a b ha hab hb)
      · rw [if_neg zq]
        exact on st2 K2 d2
  by_cases z2 : n > 1
  · rw [if_pos z2]
    refine wpS_bind (lt_at C hB (by lia) (by lia) ?_)
    by_cases z3 : R rk (arrOf st) lo < R rk (arrOf st) (lo + n - 1)
    · rw [decide_eq_true z3]
      exact wpS_pure (h _ _ (Keep.refl hB) n1 (by lia) hu)
    · rw [decide_eq_false z3]
      dsimp only
      rw [if_neg Bool.false_ne_true]
      refine wpS_bind (rev_of (rk := rk) (lo := lo) hB (by lia) (by lia) fun st1 K1 r1 => tail st1 K1 (fun a b ha hab hb => ?_) ?_)
      · rw [r1, r1, if_pos ⟨by lia, by lia⟩, if_pos ⟨by lia, by lia⟩]
        exact hu _ _ (by lia) (by lia) (by lia)
      · rw [r1, r1, if_neg (by lia), if_pos ⟨by lia, by lia⟩]
        have := hu (lo + (lo + n) - 1 - (lo + n - 1)) (lo + n - 1) (by lia) (by lia) (by lia)
        have e : lo + (lo + n) - 1 - (lo + n - 1) = lo := by lia
        rw [e] at this ⊢
        have := hu lo (lo + n - 1) (by lia) (by lia) (by lia)
        lia
  · rw [if_neg z2]
    exact tail st (Keep.refl hB) (fun a b ha hab hb => by rw [show a = b by lia]; exact Int.le_refl _) hs
end
end Ts
end
section
set_option maxHeartbeats 4000001
namespace Ts
open PySem PyProof.Rows
section
variable {prog : Program} {w : World} {A : Around} {E : Value → Shared → Prop} {s : Shared} {κ : SortKind} {P : Keyed → Prop} {rk : Keyed → Int} {a₀ : Array Keyed}
theorem R_bubble {xs : Array Keyed} {src d : Nat} (hs : src < xs.size) (hd : d ≤ src) (k : Nat) : R rk (bubble xs src d) k = if k = src - d then R rk xs src else if src - d < k ∧ k ≤ src then R rk xs (k - 1) else R rk xs k := by
  have e := getElem?_bubble (xs := xs) hs d hd k
  by_cases h1 : k = src - d
  · rw [if_pos h1] at e ⊢; exact R_congr e
  · rw [if_neg h1] at e ⊢
    by_cases h2 : (src - d < k ∧ k ≤ src)
    · rw [if_pos h2] at e ⊢; exact R_congr e
    · rw [if_neg h2] at e ⊢; exact R_congr e
theorem bin_ok (C : Cmp prog w A s κ P rk) {st : SortSt} {lo n ok : Nat} {Q : Bool → SortSt → Prop} (hB : Bs κ P a₀ st) (h1 : 1 ≤ ok) (hok : ok ≤ n) (hn : lo + n ≤ a₀.size) (hu : Up rk (arrOf st) lo ok)
    (h : ∀ st', Keep κ P rk a₀ lo st st' → Up rk (arrOf st') lo n → Q true st') : wpS (model prog w) A E s (binarySort' lo n ok) Q st := by
  rw [binarySort'_eq]
  rw [show max ok 1 = ok by lia]
  refine wpS_bind (wpS_mono (wpS_forRange (I := fun k c st1 => c = (none, ()) ∧ Keep κ P rk a₀ lo st st1 ∧ Up rk (arrOf st1) lo (min k n)) (Q := fun c st1 => c = (none, ()) ∧ Keep κ P rk a₀ lo st st1 ∧ Up rk (arrOf st1) lo n) ?step ?fin ?init) ?post)
  case init => exact ⟨rfl, Keep.refl hB, by rwa [Nat.min_eq_left hok]⟩
  case fin =>
    rintro c st1 ⟨rfl, K1, u1⟩
    rw [show min (max ok n) n = n by lia] at u1
    exact ⟨rfl, K1, u1⟩
  case post =>
    rintro c st1 ⟨rfl, K1, u1⟩
    exact wpS_pure (h st1 K1 u1)
  case step =>
    rintro k c st1 hk1 hk2 ⟨rfl, K1, u1⟩
    rw [show min k n = k by lia] at u1
    refine wpS_bind (wpS_mono (wpS_forRange (I := fun x c st2 => st2 = st1 ∧ ∃ l r, c = (none, l, r) ∧ l ≤ r ∧ r ≤ k ∧ r - l ≤ k - x ∧ (∀ i, lo ≤ i → i < lo + l → R rk (arrOf st1) i ≤ R rk (arrOf st1) (lo + k)) ∧ (∀ i, lo + r ≤ i → i < lo + k → R rk (arrOf st1) (lo + k) ≤ R rk (arrOf st1) i))
      (Q := fun c st2 => st2 = st1 ∧ ∃ l r, c = (none, l, r) ∧ l ≤ k ∧ (∀ i, lo ≤ i → i < lo + l → R rk (arrOf st1) i ≤ R rk (arrOf st1) (lo + k)) ∧ (∀ i, lo + l ≤ i → i < lo + k → R rk (arrOf st1) (lo + k) ≤ R rk (arrOf st1) i)) ?istep ?ifin ?iinit) ?ipost)
    case iinit => exact ⟨rfl, 0, k, rfl, by lia, by lia, by lia, fun i _ _ => by lia, fun i _ _ => by lia⟩
    case ifin =>
      rintro c st2 ⟨rfl, l, r, rfl, lr, rk', m, h2, h3⟩
      obtain rfl : l = r := by lia
      exact ⟨rfl, l, l, rfl, rk', h2, h3⟩
    case istep =>
      rintro x c st2 _ hx ⟨rfl, l, r, rfl, lr, rk', m, h2, h3⟩
      dsimp only
      by_cases ge : l ≥ r
      · rw [if_pos ge]
        obtain rfl : l = r := by lia
        exact wpS_pure ⟨rfl, l, l, rfl, rk', h2, h3⟩
      · rw [if_neg ge]
        refine wpS_bind (lt_at C K1.b (by lia) (by lia) ?_)
        by_cases z : R rk (arrOf st2) (lo + k) < R rk (arrOf st2) (lo + (l + r) / 2)
        · rw [decide_eq_true z]
          refine wpS_pure ⟨rfl, l, (l + r) / 2, rfl, by lia, by lia, by lia, h2, fun i i1 i2 => ?_⟩
          have := u1 (lo + (l + r) / 2) i (by lia) i1 (by lia)
          lia
        · rw [decide_eq_false z]
          refine wpS_pure ⟨rfl, (l + r) / 2 + 1, r, rfl, by lia, by lia, by lia, fun i i1 i2 => ?_, h3⟩
          have := u1 i (lo + (l + r) / 2) i1 (by lia) (by lia)
          lia
    case ipost =>
      rintro c st2 ⟨rfl, l, r, rfl, lk, h2, h3⟩
      dsimp only
      rw [moveDown'_eq]
      have sz := K1.b.size
      have rb : ∀ j, R rk (arrOf (setArr st2 (bubble (arrOf st2) (lo + k) (lo + k - (lo + l))))) j = if j = lo + l then R rk (arrOf st2) (lo + k) else if lo + l < j ∧ j ≤ lo + k then R rk (arrOf st2) (j - 1) else R rk (arrOf st2) j := fun j => by
        have := R_bubble (rk := rk) (xs := arrOf st2) (src := lo + k) (d := lo + k - (lo + l)) (by rw [sz]; lia) (by lia) j
        rw [show lo + k - (lo + k - (lo + l)) = lo + l by lia] at this
        exact this
      refine wpS_bind (wpS_modify (wpS_pure ⟨rfl, K1.trans ⟨K1.b.arr (bubble_perm _ _ _), rfl, fun j hj => ?_⟩, fun i j hi hij hj => ?_⟩))
      · rw [rb, if_neg (by lia), if_neg (by lia)]
      · rw [show min (k + 1) n = k + 1 by lia] at hj
        rw [rb, rb]
        by_cases a1 : i = lo + l
        · rw [if_pos a1]
          by_cases b1 : j = lo + l
          · rw [if_pos b1]; exact Int.le_refl _
          · rw [if_neg b1, if_pos ⟨by lia, by lia⟩]
            exact h3 _ (by lia) (by lia)
        · rw [if_neg a1]
          by_cases a2 : lo + l < i ∧ i ≤ lo + k
          · rw [if_pos a2, if_neg (by lia), if_pos ⟨by lia, by lia⟩]
            exact u1 _ _ (by lia) (by lia) (by lia)
          · rw [if_neg a2]
            by_cases b1 : j = lo + l
            · rw [if_pos b1]; exact h2 _ hi (by lia)
            · rw [if_neg b1]
              by_cases b2 : lo + l < j ∧ j ≤ lo + k
              · rw [if_pos b2]; exact u1 _ _ hi (by lia) (by lia)
              · rw [if_neg b2]; exact u1 _ _ hi hij (by lia)
end
end Ts
end
section
set_option maxHeartbeats 4000001
namespace Ts
open PySem PyProof.Rows
def bd (left : Bool) (k r : Int) : Bool := if left = true then decide (r < k) else !decide (k < r)
section
variable {prog : Program} {w : World} {A : Around} {E : Value → Shared → Prop} {s : Shared} {κ : SortKind} {P : Keyed → Prop} {rk : Keyed → Int} {a₀ : Array Keyed}
end
end Ts
end
section
set_option maxHeartbeats 4000001
namespace Ts
open PySem PyProof.Rows
def Srt (rk : Keyed → Int) (l : List Keyed) : Prop := l.Pairwise fun x y => rk x ≤ rk y
section
variable {rk : Keyed → Int} {T out a b c : List Keyed}
theorem R_at {arr : Array Keyed} {i : Nat} {p : Keyed} (e : arr[i]? = some p) : R rk arr i = rk p := by unfold R; rw [e]
end
section
variable {rk : Keyed → Int} {T : List Keyed} {out a b : Array Keyed} {ia ib k : Nat} {p q : Keyed}
end
end Ts
end
section
set_option maxHeartbeats 4000001
namespace Ts
open PySem PyProof.Rows
section
variable {prog : Program} {w : World} {A : Around} {E : Value → Shared → Prop} {s : Shared} {κ : SortKind} {P : Keyed → Prop} {rk : Keyed → Int} {a₀ : Array Keyed}
end
end Ts
end
section
set_option maxHeartbeats 4000001
namespace Ts
open PySem PyProof.Rows
section
variable {rk : Keyed → Int} {T out a b c : List Keyed}
theorem cut_of (arr : Array Keyed) (n : Nat) : (arr.extract 0 n).toList = arr.toList.take n := by
  rw [Array.toList_extract, List.extract_eq_take_drop, List.drop_zero, Nat.sub_zero]
end
section
variable {rk : Keyed → Int} {T : List Keyed} {out a b : Array Keyed} {na nb i : Nat} {p q : Keyed}
end
section
variable {prog : Program} {w : World} {A : Around} {E : Value → Shared → Prop} {s : Shared} {κ : SortKind} {P : Keyed → Prop} {rk : Keyed → Int} {a₀ : Array Keyed}
end
end Ts
end
section
set_option maxHeartbeats 4000001
namespace Ts
open PySem PyProof.Rows
section
variable {rk : Keyed → Int}
theorem srt_of {arr : Array Keyed} {lo n : Nat} (h : Up rk arr lo n) (hn : lo + n ≤ arr.size) : Srt rk (arr.extract lo (lo + n)).toList := by
  refine List.pairwise_iff_getElem.mpr fun i j hi hj ij => ?_
  have hs : (arr.extract lo (lo + n)).size = n := by rw [Array.size_extract]; lia
  rw [Array.length_toList, hs] at hi hj
  have := h (lo + i) (lo + j) (by lia) (by lia) (by lia)
  rw [R_at (getElem?_pos arr (lo + i) (by lia)), R_at (getElem?_pos arr (lo + j) (by lia))] at this
  simpa using this
end
section
variable {prog : Program} {w : World} {A : Around} {E : Value → Shared → Prop} {s : Shared} {κ : SortKind} {P : Keyed → Prop} {rk : Keyed → Int} {a₀ : Array Keyed}
end
end Ts
end
section
set_option maxHeartbeats 4000001
namespace Ts
open PySem PyProof.Rows
section
variable {prog : Program} {w : World} {A : Around} {E : Value → Shared → Prop} {s : Shared} {κ : SortKind} {P : Keyed → Prop} {rk : Keyed → Int} {a₀ : Array Keyed}
theorem runs_ok (C : Cmp prog w A s κ P rk) {st : SortSt} {Q : Unit → SortSt → Prop} (hs : a₀.size < 64) (hB : Bs κ P a₀ st) (hp : pendingOf st = #[])
    (h : ∀ st', Bs κ P a₀ st' → Up rk (arrOf st') 0 a₀.size → Q () st') : wpS (model prog w) A E s sortRuns' Q st := by
  rw [sortRuns'_eq]
  refine wpS_bind (wpS_get ?_)
  dsimp only
  rw [hB.size]
  have mr : ∀ n, n < 64 → minRun' n n 0 = n := fun n hn => by
    cases n with
    | zero => rfl
    | succ n => rw [minRun'_succ, if_pos hn]
  rw [mr _ hs]
  refine wpS_bind (wpS_mono (wpS_forRange (I := fun i c st1 => ∃ lo, c = (none, lo) ∧ ((lo = 0 ∧ i = 0 ∧ Bs κ P a₀ st1 ∧ pendingOf st1 = #[]) ∨ (lo = a₀.size ∧ Bs κ P a₀ st1 ∧ (pendingOf st1).size ≤ 1 ∧ Up rk (arrOf st1) 0 a₀.size)))
    (Q := fun c st1 => ∃ lo, c = (none, lo) ∧ Bs κ P a₀ st1 ∧ (pendingOf st1).size ≤ 1 ∧ Up rk (arrOf st1) 0 a₀.size) ?step ?fin ?init) ?post)
  case init => exact ⟨0, rfl, .inl ⟨rfl, rfl, hB, hp⟩⟩
  case fin =>
    rintro c st1 ⟨lo, rfl, ⟨_, z, b, p⟩ | ⟨_, b, p, u⟩⟩
    · exact ⟨lo, rfl, b, by rw [p]; exact Nat.zero_le _, fun c d hc hcd hd => by lia⟩
    · exact ⟨lo, rfl, b, p, u⟩
  case step =>
    rintro i c st1 _ hi ⟨lo, rfl, ⟨rfl, rfl, b, p⟩ | ⟨rfl, b, p, u⟩⟩
    · dsimp only
      rw [if_neg (show ¬ 0 ≥ a₀.size by lia)]
      refine wpS_bind (count_ok C b (by lia) (by lia) fun st2 n K2 n1 n2 u2 => ?_)
      dsimp only
      have last : ∀ st4, Bs κ P a₀ st4 → pendingOf st4 = #[] → Up rk (arrOf st4) 0 a₀.size → wpS (model prog w) A E s (do
          modify fun st5 => setPending st5 ((pendingOf st5).push (0, a₀.size, 0))
          pure (ForInStep.yield ((none : Option Unit), 0 + a₀.size))) (fun r st' => match r with | .done c' => ∃ lo, c' = (none, lo) ∧ Bs κ P a₀ st' ∧ (pendingOf st').size ≤ 1 ∧ Up rk (arrOf st') 0 a₀.size | .yield c' => ∃ lo, c' = (none, lo) ∧ ((lo = 0 ∧ 0 + 1 = 0 ∧ Bs κ P a₀ st' ∧ pendingOf st' = #[]) ∨ (lo = a₀.size ∧ Bs κ P a₀ st' ∧ (pendingOf st').size ≤ 1 ∧ Up rk (arrOf st') 0 a₀.size))) st4 := by
        intro st4 b4 p4 u4
        refine wpS_bind (wpS_modify (wpS_pure ⟨0 + a₀.size, rfl, .inr ⟨Nat.zero_add _, ⟨b4.kind, b4.fail, b4.perm, b4.all⟩, ?_, u4⟩⟩))
        show ((pendingOf st4).push (0, a₀.size, 0)).size ≤ 1
        rw [p4]; exact Nat.le_refl _
      by_cases zm : n < a₀.size
      · rw [if_pos zm]
        refine wpS_bind (rule_of ?_)
        refine wpS_bind (bin_ok C K2.b n1 (by lia) (by lia) u2 fun st3 K3 u3 => ?_)
        have em : min (a₀.size - 0) a₀.size = a₀.size := by lia
        rw [em] at u3 ⊢
        rw [if_neg (show ¬ (!true) = true by decide)]
        refine wpS_bind (wpS_get ?_)
        have p3 : pendingOf st3 = #[] := by rw [K3.pend, K2.pend, p]
        rw [p3]
        exact last st3 K3.b p3 u3
      · rw [if_neg zm]
        have en : n = a₀.size := by lia
        subst en
        refine wpS_bind (wpS_get ?_)
        have p3 : pendingOf st2 = #[] := by rw [K2.pend, p]
        rw [p3]
        exact last st2 K2.b p3 u2
    · dsimp only
      rw [if_pos (Nat.le_refl _)]
      exact wpS_pure ⟨_, rfl, b, p, u⟩
  case post =>
    rintro c st1 ⟨lo, rfl, b, p, u⟩
    dsimp only
    refine wpS_bind (wpS_mono (wpS_forRange (I := fun i c st2 => c = (none, ()) ∧ st2 = st1) (Q := fun c st2 => c = (none, ()) ∧ st2 = st1) ?_ (fun c st2 hh => hh) ⟨rfl, rfl⟩) ?_)
    · rintro i c st2 _ hi ⟨rfl, rfl⟩
      refine wpS_bind (wpS_get ?_)
      rw [if_pos p]
      exact wpS_pure ⟨rfl, rfl⟩
    · rintro c st2 ⟨rfl, rfl⟩
      exact wpS_pure (h st2 b u)
end
end Ts
end
section
set_option maxHeartbeats 4000001
namespace L2
open PySem PySem.Spec PyProof.Rows Own
theorem dk_empty {P : Program} {w : World} {H : Hp} (h : Heap) (hb : sysModules < h.objs.size) : ObjOk P w H (h.push { cls := .type "dict", data := .dict #[] }) h.objs.size (.dK []) :=
  ⟨Nat.zero_le _, beq_eq_false_iff_ne.mpr (Ne.symm (Nat.ne_of_lt hb)), [], .nil, Heap.DictOf.new h⟩
section
variable {X : Cx} {pos : Pos}
theorem Inv.big {pins : List (Addr × Obj)} {σ : St} {H : Hp} {s : Shared} (I : Inv X pins σ H s) : sysModules < s.heap.objs.size := by
  have h : mainGlobals < s.heap.objs.size := (I.mod.glob.keeps I.bk).lt
  exact Nat.lt_trans (by decide) h
end
end L2
namespace Bn
open PySem L2 Own
end Bn
end
section
set_option maxHeartbeats 4000001
namespace L2
open PySem PySem.Spec PyProof.Rows Own
def LtAt (A : Around) (s : Shared) (y x : Value) (b : Bool) : Prop := ∀ (prog : Program) (w : World) (E : Value → Shared → Prop) (Q : Value → Shared → Prop), Q (.bool b) s → wpAny (model prog w) A (richCompare .Lt y x) Q E s
theorem LtAt.ints {A : Around} {s : Shared} (a b : Int) (t u : Tok) : LtAt A s (.int a t) (.int b u) (decide (a < b)) := fun _ _ _ _ h => lt_int h
theorem ltTup_meets (l b : Addr) (xs ys : Array Value) (n m : Nat) (d1 d2 : Option Addr) (sl1 sl2 : Array (Option Value)) (k : Nat) (k1 : k < xs.size) (k2 : k < ys.size) (c : Bool) :
    Meets (Builtin.«tuple.__lt__» ⟨[.ref l, .ref b], []⟩)
      (fun A R s => s.heap.get? l = some { cls := .type "tuple", dict := d1, data := .seq xs n, slots := sl1 } ∧ s.heap.get? b = some { cls := .type "tuple", dict := d2, data := .seq ys m, slots := sl2 } ∧
        (∀ j (h1 : j < xs.size) (h2 : j < ys.size), j < k → SeqAt.EqAt A.in1 s xs[j] ys[j] true) ∧ SeqAt.EqAt A.in1 s xs[k] ys[k] false ∧ LtAt A.in1 s xs[k] ys[k] c ∧ R (.ok (.ret (.bool c))) s) :=
  .of_wp fun prog w A R s h => by
    obtain ⟨hp, g, d, tk, os⟩ := s; obtain ⟨hl, hb, he, hk, hc, h⟩ := h
    have kinds := AutoSeq1.sub_tuple_tuple
    have zl : (xs.toList.zip ys.toList).length = min xs.size ys.size := by simp
    wp_walk using wpAny_loadPart' hl, wpAny_loadPart' hb, wpAny_forIn_list _ (fun rest b s' => b.1 = none ∧ s' = ⟨hp, g, d, tk, os⟩ ∧ ∃ i, i ≤ k ∧ rest = (xs.toList.zip ys.toList).drop i) _
    case turn =>
      rintro ⟨y, x⟩ rest b s' ⟨hb', rfl, i, ik, hz⟩
      have i1 : i < xs.size := by lia
      have i2 : i < ys.size := by lia
      have il : i < (xs.toList.zip ys.toList).length := by rw [zl]; lia
      rw [List.drop_eq_getElem_cons il] at hz
      obtain ⟨e1, e2⟩ := List.cons.inj hz
      have ey : y = xs[i] := by simpa using congrArg Prod.fst e1
      have ex : x = ys[i] := by simpa using congrArg Prod.snd e1
      subst ey ex
      by_cases z : i = k
      · subst z
        refine wpAny_bind (hk prog w _ _ ?_)
        simp only [if_true, Bool.not_false]
        refine wpAny_bind (wpAny_rule (wpAny_bind (hc prog w _ _ ?_)))
        wp_walk
        exact ⟨_, rfl, h⟩
      · refine wpAny_bind (he i i1 i2 (by lia) prog w _ _ ?_)
        wp_walk
        exact ⟨rfl, rfl, i + 1, by lia, e2⟩
    case fin =>
      rintro ⟨b1, b2⟩ s' ⟨hb', rfl, i, ik, hz⟩
      have il : i < (xs.toList.zip ys.toList).length := by rw [zl]; lia
      rw [List.drop_eq_getElem_cons il] at hz; cases hz
    case h =>
      exact ⟨rfl, rfl, 0, Nat.zero_le _, rfl⟩
theorem LtAt.tuples {A : Around} {s : Shared} {l b : Addr} {xs ys : Array Value} {k : Nat} {c : Bool} (hl : IsTup s.heap l xs) (hb : IsTup s.heap b ys) (hu : A.units < cLine) (k1 : k < xs.size) (k2 : k < ys.size)
    (he : ∀ j (h1 : j < xs.size) (h2 : j < ys.size), j < k → SeqAt.EqAt A.in1 s xs[j] ys[j] true) (hk : SeqAt.EqAt A.in1 s xs[k] ys[k] false) (hc : LtAt A.in1 s xs[k] ys[k] c) : LtAt A s (.ref l) (.ref b) c := fun prog w E Q h => by
  obtain ⟨⟨cl1, dd1, da1, sl1⟩, o1, c1, n, e1⟩ := hl
  obtain ⟨⟨cl2, dd2, da2, sl2⟩, o2, c2, m, e2⟩ := hb
  simp only at c1 e1 c2 e2; subst c1 e1 c2 e2
  exact richCompare_meets_room (op := .Lt) ⟨_, o1, rfl⟩ ⟨_, o2, rfl⟩ F.slot_tuple_lt F.entry_tuple_lt (F.args_tuple_lt_2 _ _) (ltTup_meets l b xs ys n m dd1 dd2 sl1 sl2 k k1 k2 c) ⟨o1, o2, he, hk, hc, show Value.bool c ≠ Value.notImplemented ∧ Q (.bool c) s from ⟨(fun x => nomatch x), h⟩⟩ hu
section
variable {prog : Program} {w : World} {A : Around} {R : Result → Shared → Prop} {I S : Addr} {fp wr : List Addr} {n : Nat} {P : Nat → Value → Prop} {St : Nat → Heap → Prop}
end
section
variable {prog : Program} {w : World} {A : Around} {E : Value → Shared → Prop} {s : Shared}
end
section
variable {X : Cx}
end
end L2
end
section
set_option maxHeartbeats 4000001
namespace Ts
open PySem PyProof.Rows
section
variable {prog : Program} {w : World} {A : Around} {E : Value → Shared → Prop} {s : Shared}
theorem sort_tree {a : Addr} {vs : List Value} {n : Nat} {Pp : Fin → Shared → Prop} (ho : s.heap.get? a = some (seqObj "list" vs.toArray n)) (hz : vs.length ≤ 63) (κ : SortKind) (rv : Value → Int)
    (hkind : ∀ h', (∀ c o, c ≠ a → s.heap.get? c = some o → h'.get? c = some o) → 2 ≤ vs.length → ∀ {Q : SortKind → Shared → Prop} {E : Value → Shared → Prop}, Q κ { s with heap := h' } → wpAny (model prog w) A (keyKind' vs.toArray) Q E { s with heap := h' })
    (hcmp : ∀ h', (∀ c o, c ≠ a → s.heap.get? c = some o → h'.get? c = some o) → Cmp prog w A { s with heap := h' } κ (fun p => p.1 ∈ vs) (fun p => rv p.1))
    (h : ∀ out : List Value, out.Perm vs → out.Pairwise (fun x y => rv x ≤ rv y) → Pp (.done (.ret .none)) { s with heap := sortedHeap s.heap a vs out.toArray }) :
    wpAny (model prog w) A (Builtin.«list.sort» ⟨[.ref a], []⟩) Pp E s := by
  have al : a < s.heap.objs.size := Heap.lt_size ho
  have ln : vs.toArray.size = vs.length := List.size_toArray ..
  have sl : vs.length ≤ sizeLine := Nat.le_trans hz (by decide)
  rw [list_sort_plain]
  refine wpAny_bind (listItems_at ho rfl (wpAny_bind (listUpdate_at ho rfl ?_ (hsz := by rw [ln]; exact sl))))
  obtain ⟨ep, e1⟩ : ∃ ep, (s.heap.update a (Obj.mapSeq fun _ => #[])).get? a = some (seqObj "list" #[] ep) := ⟨_, get?_update_seq ho fun _ => #[]⟩
  refine wpAny_bind (seqEpoch_at e1 rfl (wpAny_bind (wpAny_newTuple (wpAny_bind (wpAny_newList (wpAny_holding ?_))))))
  have e6 : (((s.heap.update a (Obj.mapSeq fun _ => #[])).push (seqObj "tuple" vs.toArray 0)).push (seqObj "list" #[] 0)).get? a = some (seqObj "list" #[] ep) :=
    Heap.get?_push_of_some _ (Heap.get?_push_of_some _ e1)
  have old : ∀ c o, c ≠ a → s.heap.get? c = some o → (((s.heap.update a (Obj.mapSeq fun _ => #[])).push (seqObj "tuple" vs.toArray 0)).push (seqObj "list" #[] 0)).get? c = some o := fun c o nc q =>
    Heap.get?_push_of_some _ (Heap.get?_push_of_some _ ((Heap.get?_update_other _ _ (Ne.symm nc)).trans q))
  show wpAny (model prog w) A _ Pp E { s with heap := ((s.heap.update a (Obj.mapSeq fun _ => #[])).push (seqObj "tuple" vs.toArray 0)).push (seqObj "list" #[] 0) }
  have lo : ∀ out : List Value, out.Perm vs → out.toArray.size ≤ sizeLine + 1 := fun out p1 => by rw [List.size_toArray, p1.length_eq]; lia
  generalize hH : ((s.heap.update a (Obj.mapSeq fun _ => #[])).push (seqObj "tuple" vs.toArray 0)).push (seqObj "list" #[] 0) = h6 at e6 old ⊢
  have back : ∀ out : Array Value, sortedHeap s.heap a vs out = h6.update a (Obj.mapSeq fun _ => out) := fun out => by rw [← hH]; rfl
  by_cases few : vs.toArray.size < 2
  · rw [if_pos few, if_pos few]
    refine wpAny_bind (wpAny_pure (?_ : wpAny _ _ _ _ _ _))
    refine wpAny_bind (wpAny_pure ?_)
    have em : (vs.toArray.zip vs.toArray).map (·.2) = vs.toArray := by
      apply Array.ext'
      rw [Array.toList_map, Array.toList_zip]
      exact List.map_snd_zip (Nat.le_refl _)
    have one : vs.Pairwise (fun x y => rv x ≤ rv y) := by
      match vs, few with
      | [], _ => exact List.Pairwise.nil
      | [x], _ => exact List.pairwise_singleton _ _
      | _ :: _ :: _, z => simp at z; lia
    have k := h vs (List.Perm.refl _) one
    rw [back] at k
    dsimp only
    rw [em]
    refine wpAny_bind (seqEpoch_at e6 rfl (wpAny_bind (listUpdate_at e6 rfl ?_ (hsz := Nat.zero_le _) (hsz2 := lo vs (List.Perm.refl _)))))
    simp only [if_false, bne_self_eq_false, Bool.false_eq_true]
    exact wpAny_pure k
  rw [if_neg few, if_neg few]
  refine wpAny_bind (hkind h6 old (by lia) ?_)
  have C := hcmp h6 old
  refine wpAny_bind (wpAny_mono (runs_ok C (hs := by simp; lia) (a₀ := vs.toArray.zip vs.toArray) (st := SortSt.mk' κ (vs.toArray.zip vs.toArray) #[] 7 none)
    (Q := fun _ st' => Bs κ (fun p => p.1 ∈ vs) (vs.toArray.zip vs.toArray) st' ∧ Up (fun p => rv p.1) (arrOf st') 0 (vs.toArray.zip vs.toArray).size) ⟨rfl, rfl, Array.Perm.refl _, fun p hp => ?_⟩ rfl fun st' b u => ⟨b, u⟩) ?_ fun _ _ e => e)
  · have : (vs.toArray.zip vs.toArray).toList = vs.zip vs := by simp
    rw [this] at hp
    exact (List.of_mem_zip hp).1
  rintro ⟨⟨⟩, st'⟩ s' ⟨rfl, b, u⟩
  have pl : (arrOf st').toList.Perm (vs.zip vs) := by
    have := Array.perm_iff_toList_perm.mp b.perm
    simpa using this
  have same : ∀ p ∈ (arrOf st').toList, p.1 = p.2 := fun p hp => by
    have h1 := pl.mem_iff.mp hp
    obtain ⟨i, hi⟩ := List.mem_iff_getElem?.mp h1
    rw [List.getElem?_zip_eq_some] at hi
    have := hi.1.symm.trans hi.2
    exact Option.some.inj this
  have so : Srt (fun p => rv p.1) (arrOf st').toList := by
    have := srt_of (arr := arrOf st') (lo := 0) (n := (arrOf st').size) (by rw [b.size]; exact u) (by lia)
    rw [Nat.zero_add, cut_of, ← Array.length_toList, List.take_length] at this
    exact this
  have pm : ((arrOf st').toList.map (·.2)).Perm vs := by
    have := pl.map (·.2)
    rwa [List.map_snd_zip (Nat.le_refl _)] at this
  have em : (arrOf st').map (·.2) = ((arrOf st').toList.map (·.2)).toArray := by
    apply Array.ext'; simp
  have k := h _ pm (by
    refine List.pairwise_map.mpr (List.Pairwise.imp_of_mem ?_ so)
    intro x y hx hy le
    rw [← same x hx, ← same y hy]; exact le)
  rw [back] at k
  dsimp only
  rw [em, b.fail]
  refine wpAny_bind (seqEpoch_at e6 rfl (wpAny_bind (listUpdate_at e6 rfl ?_ (hsz := Nat.zero_le _) (hsz2 := lo _ pm))))
  simp only [if_false, bne_self_eq_false, Bool.false_eq_true]
  exact wpAny_pure k
end
end Ts
end
section
set_option maxHeartbeats 4000001
namespace Own
open PySem PySem.Spec PyProof.Rows
abbrev IsZipN (h : Heap) (z TI TO t : Addr) (c : Bool) : Prop := h.get? z = some { cls := .type "zip", dict := none, data := .fields #[rawInt t, .bool c, .bool false, .ref TI, .ref TO], slots := #[] }
section
variable {prog : Program} {w : World} {A : Around} {E : Value → Shared → Prop} {s : Shared} {z TI TO i1 i2 : Addr} {f1 f2 : List Addr} {n1 n2 k : Nat} {P1 P2 : Nat → Value → Prop} {S1 S2 : Nat → Heap → Prop} {a b : Value}
theorem zip_held {α : Type} {t : Addr} {c : Bool} {o : Obj} {f : Bool → Sem α} {Q : α → Shared → Prop} (hz : IsZipN s.heap z TI TO t c) (ho : s.heap.get? t = some o) (h : ∀ h', IsZipN h' z TI TO t true → Heap.SameBut z s.heap h' → wpAny (model prog w) A (f false) Q E { s with heap := h' }) :
    wpAny (model prog w) A (Builtin.SmallTypes.ownedTupleIsFree (.ref z) >>= f) Q E s := by
  refine wpAny_bind ?_; unfold Builtin.SmallTypes.ownedTupleIsFree
  refine rf 0 hz rfl rfl ?_
  show wpAny _ _ (loadIfAlive ((t : Int).toNat) >>= _) _ _ _
  rw [Int.toNat_natCast]
  refine wpAny_bind (PySem.W.kdx_alive ho ?_)
  simp only [Bool.false_eq_true, if_false, Option.isNone_some]
  refine rf (x := .bool c) 1 hz rfl rfl ?_
  have eT : (Value.bool true != Value.bool true) = false := rfl
  have eF : (Value.bool false != Value.bool true) = true := rfl
  cases c with
  | true =>
    rw [eT]
    exact wpAny_pure (h s.heap hz (Heap.SameBut.refl _ _))
  | false =>
    rw [eF]
    exact wpAny_bind (wpAny_setField_rec hz (show 1 < 5 by decide) fun h' z' sb => wpAny_pure (h h' z' sb))
theorem zip_stepN {t : Addr} {c : Bool} {o : Obj} (S : Sep z TI TO i1 i2 f1 f2) (D1 : Draws prog w A i1 f1 n1 P1 S1) (D2 : Draws prog w A i2 f2 n2 P2 S2) {Q : Value → Shared → Prop}
    (hz : IsZipN s.heap z TI TO t c) (ho : s.heap.get? t = some o) (hI : IsPair s.heap TI (.ref i1) (.ref i2)) (d1 : S1 k s.heap) (d2 : S2 k s.heap) (l1 : k < n1) (l2 : k < n2)
    (h : ∀ x y h' tk, P1 k x → P2 k y → IsZipN h' z TI TO t true → S1 (k + 1) h' → S2 (k + 1) h' → IsPair h' s.heap.objs.size x y →
      (∀ c o, c ∉ [z, TO, i1, i2] → s.heap.get? c = some o → h'.get? c = some o) → Q (.ref s.heap.objs.size) { s with heap := h', toks := tk }) :
    wpAny (model prog w) A (Builtin.«zip.__next__» ⟨[.ref z], []⟩) (fun r s' => ∃ v, r = .done (.ret v) ∧ Q v s') E s := by
  have nd := S.all
  simp only [List.nodup_cons, List.mem_cons, List.not_mem_nil, or_false, not_or] at nd
  obtain ⟨⟨zI, zO, z1, z2⟩, ⟨IO, I1, I2⟩, ⟨O1, O2⟩, n12, _⟩ := nd
  refine rf 2 hz rfl rfl (rf 3 hz rfl rfl (wpAny_bind (wpAny_seqItems hI rfl (zip_held hz ho fun ha za sa => ?_))))
  rw [if_neg Bool.false_ne_true]
  refine wpAny_bind ?_
  simp only [List.forIn_toArray, List.forIn_cons, List.forIn_nil]
  refine wpAny_bind (wpAny_bind (wpAny_holding (wpAny_bind (D1.item k _ _ _ l1 (D1.frame _ _ _ d1 fun c hc o e => (sa.2 c fun q => S.z1 (q ▸ hc)).trans e) fun x hb tb px db sb => wpAny_pure (wpAny_pure ?_)))))
  have st2 : S2 k hb := D2.frame _ _ _ d2 fun c hm o e => (sb.2 c fun q => S.o2 (q ▸ hm)).trans ((sa.2 c fun q => S.z2 (q ▸ hm)).trans e)
  refine wpAny_bind (wpAny_bind (wpAny_holding (wpAny_bind (D2.item k _ _ _ l2 st2 fun y hd td py dd sd => wpAny_pure (wpAny_pure (wpAny_pure ?_))))))
  refine wpAny_bind (wpAny_newTuple (wpAny_pure ⟨_, rfl, ?_⟩) (hsz := by show 2 ≤ sizeLine; decide))
  have sz : hd.objs.size = s.heap.objs.size := by rw [sd.1, sb.1, sa.1]
  show Q (.ref hd.objs.size) _
  rw [sz]
  have zd : IsZipN hd z TI TO t true := (sd.2 z z2).trans ((sb.2 z z1).trans za)
  have new : (hd.push { cls := .type "tuple", data := .seq #[x, y] }).get? s.heap.objs.size = some { cls := .type "tuple", data := .seq #[x, y] } := by rw [← sz]; exact Heap.get?_push_size _ rfl
  refine h x y _ td px py (Heap.get?_push_of_some _ zd) ?_ ?_ new fun c o hc e => ?_
  · exact D1.frame _ _ _ db fun c hm o e => Heap.get?_push_of_some _ ((sd.2 c fun q => S.o1 (q ▸ hm)).trans e)
  · exact D2.frame _ _ _ dd fun c hm o e => Heap.get?_push_of_some _ e
  · simp only [List.mem_cons, List.not_mem_nil, or_false, not_or] at hc
    exact Heap.get?_push_of_some _ ((sd.2 c hc.2.2.2).trans ((sb.2 c hc.2.2.1).trans ((sa.2 c hc.1).trans e)))
theorem zip_stopN {t : Addr} {c : Bool} {o : Obj} (S : Sep z TI TO i1 i2 f1 f2) (D1 : Draws prog w A i1 f1 n1 P1 S1) {Q : Fin → Shared → Prop} (hz : IsZipN s.heap z TI TO t c) (ho : s.heap.get? t = some o) (hI : IsPair s.heap TI (.ref i1) (.ref i2)) (d1 : S1 n1 s.heap)
    (h : ∀ h' x, (∀ c o, c ∉ [z, TO, i1, i2] → s.heap.get? c = some o → h'.get? c = some o) → (∃ o, h'.get? x = some o ∧ o.cls = .type "StopIteration") → E (.ref x) { s with heap := h' }) : wpAny (model prog w) A (Builtin.«zip.__next__» ⟨[.ref z], []⟩) Q E s := by
  refine rf 2 hz rfl rfl (rf 3 hz rfl rfl (wpAny_bind (wpAny_seqItems hI rfl (zip_held hz ho fun ha za sa => ?_))))
  rw [if_neg Bool.false_ne_true]
  refine wpAny_bind ?_
  simp only [List.forIn_toArray, List.forIn_cons, List.forIn_nil]
  refine wpAny_bind (wpAny_bind (wpAny_holding (wpAny_bind (D1.done _ _ _ (D1.frame _ _ _ d1 fun c hc o e => (sa.2 c fun q => S.z1 (q ▸ hc)).trans e) fun hb x kb ex => ?_))))
  refine h hb x (fun c o hm e => ?_) ex
  simp only [List.mem_cons, List.not_mem_nil, or_false, not_or] at hm
  exact kb c o hm.2.2.1 ((sa.2 c hm.1).trans e)
end
end Own
end
section
set_option maxHeartbeats 4000001
namespace Own
open PySem PySem.Spec PyProof.Rows
theorem zip_nolen : typeLookup (.type "zip") "__len__" = pure none := by rw [typeLookup_type, builtinLookup_eq_fast]; kernel_rfl
theorem zip_nohint : typeLookup (.type "zip") "__length_hint__" = pure none := by rw [typeLookup_type, builtinLookup_eq_fast]; kernel_rfl
def ZSt (z TI TO i1 i2 : Addr) (S1 S2 : Nat → Heap → Prop) (k : Nat) (acc : Array Value) (h : Heap) : Prop :=
  IsPair h TI (.ref i1) (.ref i2) ∧ S1 k h ∧ S2 k h ∧ ((k = 0 ∧ IsZip h z TI TO .none ∧ ∃ a b, IsPair h TO a b) ∨ (1 ≤ k ∧ ∃ t c, acc[0]? = some (.ref t) ∧ IsZipN h z TI TO t c))
def Kept (far : List Addr) (P1 P2 : Nat → Value → Prop) (acc : Array Value) (h : Heap) : Prop := ∀ j v, acc[j]? = some v → ∃ t x y, v = .ref t ∧ t ∉ far ∧ IsPair h t x y ∧ P1 j x ∧ P2 j y
section
variable {prog : Program} {w : World} {A : Around} {E : Value → Shared → Prop} {s : Shared} {z TI TO i1 i2 L : Addr} {f1 f2 : List Addr} {n n2 k : Nat} {P1 P2 : Nat → Value → Prop} {S1 S2 : Nat → Heap → Prop}
theorem zip_go {acc : Array Value} (S : Sep z TI TO i1 i2 f1 f2) (D1 : Draws prog w A.in1 i1 f1 n P1 S1) (D2 : Draws prog w A.in1 i2 f2 n2 P2 S2) (hle : n ≤ n2) {Q : Option Value → Shared → Prop} (Z : ZSt z TI TO i1 i2 S1 S2 k acc s.heap) (K : Kept [z, TI, TO, i1, i2, L] P1 P2 acc s.heap) (ha : acc.size = k) (hL : L < s.heap.objs.size) (hTO : TO < s.heap.objs.size) (lk : k < n)
    (h : ∀ h' tk x y, P1 k x → P2 k y → IsPair h' s.heap.objs.size x y → ZSt z TI TO i1 i2 S1 S2 (k + 1) (acc.push (.ref s.heap.objs.size)) h' → Kept [z, TI, TO, i1, i2, L] P1 P2 (acc.push (.ref s.heap.objs.size)) h' →
      (∀ c o, c ∉ [z, TO, i1, i2] → s.heap.get? c = some o → h'.get? c = some o) → Q (some (.ref s.heap.objs.size)) { s with heap := h', toks := tk }) : wpAny (model prog w) A (pyNext (.ref z)) Q E s := by
  obtain ⟨hI, d1, d2, st⟩ := Z
  have nd := S.all
  simp only [List.nodup_cons, List.mem_cons, List.not_mem_nil, or_false, not_or] at nd
  obtain ⟨⟨zI, zO, z1, z2⟩, ⟨IO, I1, I2⟩, ⟨O1, O2⟩, n12, _⟩ := nd
  obtain ⟨o1, e1⟩ := D1.live _ _ d1
  obtain ⟨o2, e2⟩ := D2.live _ _ d2
  have old : ∀ h' : Heap, (∀ c o, c ∉ [z, TO, i1, i2] → s.heap.get? c = some o → h'.get? c = some o) → ∀ x y, IsPair h' s.heap.objs.size x y → P1 k x → P2 k y → (∃ oz, s.heap.get? z = some oz) → TO < s.heap.objs.size → Kept [z, TI, TO, i1, i2, L] P1 P2 (acc.push (.ref s.heap.objs.size)) h' := by
    intro h' kk x y new px py ⟨oz, ez⟩ lt j v hv
    by_cases q : j < acc.size
    · rw [Array.getElem?_push_lt q] at hv
      obtain ⟨t, x', y', rfl, nt, ht, p1, p2⟩ := K j v ((getElem?_pos acc j q).trans hv)
      refine ⟨t, x', y', rfl, nt, kk t _ (fun m => nt ?_) ht, p1, p2⟩
      simp only [List.mem_cons, List.not_mem_nil, or_false] at m ⊢
      rcases m with m | m | m | m <;> simp [m]
    · have jl : j < (acc.push (.ref s.heap.objs.size)).size := (Array.getElem?_eq_some_iff.mp hv).1
      rw [Array.size_push] at jl
      obtain rfl : j = acc.size := by lia
      rw [Array.getElem?_push_size] at hv
      obtain rfl := Option.some.inj hv
      refine ⟨_, x, y, rfl, fun m => ?_, new, by rw [ha]; exact px, by rw [ha]; exact py⟩
      simp only [List.mem_cons, List.not_mem_nil, or_false] at m
      have b1 := Heap.lt_size ez
      have b2 := Heap.lt_size hI
      have b3 := Heap.lt_size e1
      have b4 := Heap.lt_size e2
      rcases m with m | m | m | m | m | m
      · exact Nat.ne_of_gt b1 m
      · exact Nat.ne_of_gt b2 m
      · exact Nat.ne_of_gt lt m
      · exact Nat.ne_of_gt b3 m
      · exact Nat.ne_of_gt b4 m
      · exact Nat.ne_of_gt hL m
  have first : ∀ t, acc[0]? = some (Value.ref t) → (acc.push (.ref s.heap.objs.size))[0]? = some (Value.ref t) := fun t e => by
    have q := (Array.getElem?_eq_some_iff.mp e).1
    rw [Array.getElem?_push_lt q]; exact (getElem?_pos acc 0 q).symm.trans e
  rcases st with ⟨rfl, hz, a, b, hO⟩ | ⟨k1, t, c, ht, hz⟩
  · have tyz : s.TypeIs (.ref z) "zip" := ⟨_, hz, rfl⟩
    unfold pyNext
    refine wpAny_bind (wpAny_attempt (wpAny_callSpecial?_slot (name := "__next__") tyz F.slot_zip_next (wpAny_call_entry F.slot_zip_next tyz F.entry_zip_next (zip_step S D1 D2 hz hI hO d1 d2 lk (by lia)
      fun x y h' tk p1 p2 zh Oh s1 s2 new kk => wpAny_pure ?_) (F.args_zip_next_1 _))))
    have acc0 : acc = #[] := Array.size_eq_zero_iff.mp ha
    subst acc0
    exact h h' tk x y p1 p2 new ⟨kk TI _ (by simp [Ne.symm zI, IO, I1, I2]) hI, s1, s2, .inr ⟨by lia, s.heap.objs.size, false, rfl, zh⟩⟩ (old h' kk x y new p1 p2 ⟨_, hz⟩ (Heap.lt_size hO)) kk
  · have tyz : s.TypeIs (.ref z) "zip" := ⟨_, hz, rfl⟩
    obtain ⟨t', x0, y0, et, nt, ht', _, _⟩ := K 0 _ ht
    cases et
    unfold pyNext
    refine wpAny_bind (wpAny_attempt (wpAny_callSpecial?_slot (name := "__next__") tyz F.slot_zip_next (wpAny_call_entry F.slot_zip_next tyz F.entry_zip_next (zip_stepN S D1 D2 hz ht' hI d1 d2 lk (by lia)
      fun x y h' tk p1 p2 zh s1 s2 new kk => wpAny_pure ?_) (F.args_zip_next_1 _))))
    exact h h' tk x y p1 p2 new ⟨kk TI _ (by simp [Ne.symm zI, IO, I1, I2]) hI, s1, s2, .inr ⟨by lia, t, true, first t ht, zh⟩⟩ (old h' kk x y new p1 p2 ⟨_, hz⟩ hTO) kk
theorem zip_fin {acc : Array Value} (S : Sep z TI TO i1 i2 f1 f2) (D1 : Draws prog w A.in1 i1 f1 n P1 S1) {Q : Option Value → Shared → Prop} (Z : ZSt z TI TO i1 i2 S1 S2 n acc s.heap) (K : Kept [z, TI, TO, i1, i2, L] P1 P2 acc s.heap)
    (h : ∀ h', (∀ c o, c ∉ [z, TO, i1, i2] → s.heap.get? c = some o → h'.get? c = some o) → Q none { s with heap := h' }) : wpAny (model prog w) A (pyNext (.ref z)) Q E s := by
  obtain ⟨hI, d1, d2, st⟩ := Z
  rcases st with ⟨rfl, hz, a, b, hO⟩ | ⟨k1, t, c, ht, hz⟩
  · have tyz : s.TypeIs (.ref z) "zip" := ⟨_, hz, rfl⟩
    unfold pyNext
    refine wpAny_bind (wpAny_attempt (wpAny_callSpecial?_slot (name := "__next__") tyz F.slot_zip_next (wpAny_call_entry F.slot_zip_next tyz F.entry_zip_next (zip_stop S D1 hz hI d1 fun h' x kk ⟨o, eo, co⟩ => ?_) (F.args_zip_next_1 _))))
    exact wpAny_bind (wpAny_isInstance (T := "StopIteration") (b := true) ⟨o, eo, co⟩ isSubtype_stop (wpAny_pure (h h' kk)))
  · have tyz : s.TypeIs (.ref z) "zip" := ⟨_, hz, rfl⟩
    obtain ⟨t', x0, y0, et, nt, ht', _, _⟩ := K 0 _ ht
    cases et
    unfold pyNext
    refine wpAny_bind (wpAny_attempt (wpAny_callSpecial?_slot (name := "__next__") tyz F.slot_zip_next (wpAny_call_entry F.slot_zip_next tyz F.entry_zip_next (zip_stopN S D1 hz ht' hI d1 fun h' x kk ⟨o, eo, co⟩ => ?_) (F.args_zip_next_1 _))))
    exact wpAny_bind (wpAny_isInstance (T := "StopIteration") (b := true) ⟨o, eo, co⟩ isSubtype_stop (wpAny_pure (h h' kk)))
theorem ext_zip {res : Value} {R : Result → Shared → Prop} {J : Array Value → Shared → Prop} (S : Sep z TI TO i1 i2 f1 f2) (D1 : Draws prog w A.in1.in1 i1 f1 n P1 S1) (D2 : Draws prog w A.in1.in1 i2 f2 n2 P2 S2) (hle : n ≤ n2) (nL : L ∉ [z, TI, TO, i1, i2] ++ f1 ++ f2) (hn : n ≤ sizeLine)
    (jn : ∀ (acc : Array Value) (s : Shared) (h' : Heap) tk x y, J acc s → L < s.heap.objs.size → P1 acc.size x → P2 acc.size y → IsPair h' s.heap.objs.size x y → (∀ c o, c ∉ [z, TO, i1, i2] → s.heap.get? c = some o → h'.get? c = some o) → J (acc.push (.ref s.heap.objs.size)) { s with heap := h', toks := tk })
    (jf : ∀ (acc : Array Value) (s : Shared) (h' : Heap) tk, J acc s → (∀ c o, c ∉ [z, TO, i1, i2, L] → s.heap.get? c = some o → h'.get? c = some o) → J acc { s with heap := h', toks := tk }) :
    ∀ (m k : Nat) (s : Shared) (acc : Array Value) (c : Nat), k + m = n → acc.size = k → ZSt z TI TO i1 i2 S1 S2 k acc s.heap → Kept [z, TI, TO, i1, i2, L] P1 P2 acc s.heap → s.heap.get? L = some { cls := .type "list", dict := none, data := .seq acc c, slots := #[] } → TO < s.heap.objs.size → J acc s →
      (∀ h' tk acc' c', acc'.size = n → J acc' { s with heap := h', toks := tk } → Kept [z, TI, TO, i1, i2, L] P1 P2 acc' h' → h'.get? L = some { cls := .type "list", dict := none, data := .seq acc' c', slots := #[] } → (∀ b o, b ∉ [z, TO, i1, i2, L] → s.heap.get? b = some o → h'.get? b = some o) → R (.ok (.ret res)) { s with heap := h', toks := tk }) →
      codeAny (model prog w) A (.builtin "list.extend.loop" ⟨[.ref L, .ref z, res], []⟩) R s := by
  simp only [List.mem_append, List.mem_cons, List.not_mem_nil, or_false, not_or] at nL
  obtain ⟨⟨⟨Lz, LI, LO, L1, L2⟩, Lf1⟩, Lf2⟩ := nL
  intro m
  induction m with
  | zero =>
    intro k s acc c km ha Z K hs hTO j0 fin
    obtain rfl : k = n := by lia
    refine codeAny_builtin F.entry_extend_loop (by
      refine Around.under_plainId F.plain_extend_loop _ ▸ (show wpAny _ A.in1 (pyNext (.ref z) >>= _) _ _ _ from wpAny_bind (zip_fin S D1 Z K fun h' kk => ?_))
      refine wpAny_pure (fin h' s.toks acc c ha (jf acc s h' s.toks j0 fun c o hc e => kk c o (fun m => hc (by simp only [List.mem_cons, List.not_mem_nil, or_false] at m ⊢; rcases m with m | m | m | m <;> simp [m])) e) (fun j v hv => ?_) (kk L _ (by simp [Lz, LO, L1, L2]) hs) fun b o hb e => kk b o (fun m => hb ?_) e)
      · obtain ⟨t, x, y, rfl, nt, ht, p1, p2⟩ := K j v hv
        refine ⟨t, x, y, rfl, nt, kk t _ (fun m => nt ?_) ht, p1, p2⟩
        simp only [List.mem_cons, List.not_mem_nil, or_false] at m ⊢
        rcases m with m | m | m | m <;> simp [m]
      · simp only [List.mem_cons, List.not_mem_nil, or_false] at m ⊢
        rcases m with m | m | m | m <;> simp [m])
  | succ m ih =>
    intro k s acc c km ha Z K hs hTO j0 fin
    have Ls := Heap.lt_size hs
    refine codeAny_builtin F.entry_extend_loop (by
      refine Around.under_plainId F.plain_extend_loop _ ▸ (show wpAny _ A.in1 (pyNext (.ref z) >>= _) _ _ _ from wpAny_bind (zip_go (L := L) S D1 D2 hle Z K ha Ls hTO (by lia) fun h1 tk x y px py new Z1 K1 kk => ?_))
      have hs1 := kk L _ (by simp [Lz, LO, L1, L2]) hs
      show wpAny _ A.in1 (updateSeq L (·.push (.ref s.heap.objs.size)) >>= _) _ _ _
      refine wpAny_bind (wpAny_updateSeq hs1 rfl ?_ (hz := by rw [ha]; lia) (_hz' := by rw [Array.size_push, ha]; lia))
      have oth : ∀ b o, b ≠ L → h1.get? b = some o → (h1.update L (Obj.mapSeq (·.push (.ref s.heap.objs.size)))).get? b = some o := fun b o hb e => (Heap.get?_update_other _ _ (Ne.symm hb)).trans e
      obtain ⟨hI, d1, d2, st⟩ := Z1
      have hs2 := Heap.get?_update_self (Obj.mapSeq (·.push (.ref s.heap.objs.size))) hs1 rfl
      refine wpAny_pure ⟨plainId_quiet F.plain_extend_loop _, ih (k + 1) _ (acc.push (.ref s.heap.objs.size)) _ (by lia) (by rw [Array.size_push, ha]) ⟨oth _ _ (Ne.symm LI) hI, D1.frame _ _ _ d1 fun b hb o e => oth b o (fun q => Lf1 (q ▸ hb)) e, D2.frame _ _ _ d2 fun b hb o e => oth b o (fun q => Lf2 (q ▸ hb)) e, ?_⟩ (fun j v hv => ?_) hs2 ?_ (jf _ _ _ tk (jn acc s h1 tk x y j0 Ls (by rw [ha]; exact px) (by rw [ha]; exact py) new kk) fun c o hc e => oth c o (fun q => hc (by simp [q])) e) fun h' tk' acc' c' a1 j1 a2 a3 a4 => fin h' tk' acc' c' a1 j1 a2 a3 fun b o hb e => a4 b o hb ?_⟩
      · rcases st with ⟨q, _⟩ | ⟨q, t, c', e, hz⟩
        · lia
        · exact .inr ⟨q, t, c', e, oth _ _ (Ne.symm Lz) hz⟩
      · obtain ⟨t, x, y, rfl, nt, ht, p1, p2⟩ := K1 j v hv
        exact ⟨t, x, y, rfl, nt, oth t _ (fun q => nt (by simp [q])) ht, p1, p2⟩
      · rw [Heap.size_update]
        obtain ⟨t, x, y, e, _, ht, _, _⟩ := K1 acc.size _ Array.getElem?_push_size
        cases e
        exact Nat.lt_trans hTO (Heap.lt_size ht)
      · simp only [List.mem_cons, List.not_mem_nil, or_false, not_or] at hb
        exact oth b o hb.2.2.2.2 (kk b o (by simp [hb]) e))
theorem gather_zip {Q : List Value → Shared → Prop} {J : Array Value → Shared → Prop} (S : Sep z TI TO i1 i2 f1 f2) (D1 : Draws prog w A.in1.in1 i1 f1 n P1 S1) (D2 : Draws prog w A.in1.in1 i2 f2 n2 P2 S2) (hle : n ≤ n2) (hz : IsZip s.heap z TI TO .none) (hI : IsPair s.heap TI (.ref i1) (.ref i2)) {a b : Value} (hO : IsPair s.heap TO a b) (d1 : S1 0 s.heap) (d2 : S2 0 s.heap)
    (low : ∀ c ∈ f1 ++ f2, c < s.heap.objs.size) (hn : n ≤ sizeLine)
    (jn : ∀ (acc : Array Value) (s' : Shared) (h' : Heap) tk x y, J acc s' → s.heap.objs.size < s'.heap.objs.size → P1 acc.size x → P2 acc.size y → IsPair h' s'.heap.objs.size x y → (∀ c o, c ∉ [z, TO, i1, i2] → s'.heap.get? c = some o → h'.get? c = some o) → J (acc.push (.ref s'.heap.objs.size)) { s' with heap := h', toks := tk })
    (jf : ∀ (acc : Array Value) (s' : Shared) (h' : Heap) tk, J acc s' → (∀ c o, c ∉ [z, TO, i1, i2, s.heap.objs.size] → s'.heap.get? c = some o → h'.get? c = some o) → J acc { s' with heap := h', toks := tk })
    (j0 : J #[] s)
    (h : ∀ h' tk (acc : Array Value), acc.size = n → J acc { s with heap := h', toks := tk } → Kept [z, TI, TO, i1, i2, s.heap.objs.size] P1 P2 acc h' → (∀ b o, b ∉ [z, TO, i1, i2] → s.heap.get? b = some o → h'.get? b = some o) → s.heap.objs.size < h'.objs.size → Q acc.toList { s with heap := h', toks := tk }) : wpAny (model prog w) A (collect (.ref z)) Q E s := by
  obtain ⟨o1, e1⟩ := D1.live _ _ d1
  obtain ⟨o2, e2⟩ := D2.live _ _ d2
  have nL : s.heap.objs.size ∉ [z, TI, TO, i1, i2] ++ f1 ++ f2 := fun m => by
    simp only [List.mem_append, List.mem_cons, List.not_mem_nil, or_false] at m
    rcases m with ((m | m | m | m | m) | m) | m
    · exact Nat.ne_of_gt (Heap.lt_size hz) m
    · exact Nat.ne_of_gt (Heap.lt_size hI) m
    · exact Nat.ne_of_gt (Heap.lt_size hO) m
    · exact Nat.ne_of_gt (Heap.lt_size e1) m
    · exact Nat.ne_of_gt (Heap.lt_size e2) m
    · exact Nat.lt_irrefl _ (low _ (List.mem_append_left _ m))
    · exact Nat.lt_irrefl _ (low _ (List.mem_append_right _ m))
  have p1 : ∀ c o, s.heap.get? c = some o → (s.heap.push (seqObj "list" #[] 0)).get? c = some o := fun c o e => Heap.get?_push_of_some _ e
  have tyz : Shared.TypeIs ({ s with heap := s.heap.push (seqObj "list" #[] 0) } : Shared) (.ref z) "zip" := ⟨_, p1 _ _ hz, rfl⟩
  have new : (s.heap.push (seqObj "list" #[] 0)).get? s.heap.objs.size = some (seqObj "list" #[] 0) := Heap.get?_push_size _ rfl
  unfold collect
  refine wpAny_bind (wpAny_runValue (codeAny_builtin entry_proto_collect' (Around.under_plainId F.plain_proto_collect _ ▸ (wpAny_bind (wpAny_newList (wpAny_pure ⟨Code.quiet_builtin _ (by decide +kernel), codeAny_builtin entry_list_iadd' (Around.under_plainId F.plain_list_iadd _ ▸ ?_)⟩))))))
  show wpAny _ A.in1 (Builtin.List.listExtendWith (.ref s.heap.objs.size) (.ref z) (.ref s.heap.objs.size)) _ _ ({ s with heap := s.heap.push (seqObj "list" #[] 0) } : Shared)
  unfold Builtin.List.listExtendWith; refine wpAny_bind (wpAny_typeOf tyz ?_)
  have no : (Builtin.List.listSameRef (.ref s.heap.objs.size) (.ref z) || Value.type "zip" == Value.type "list" || Value.type "zip" == Value.type "tuple") = false := by
    have : Builtin.List.listSameRef (.ref s.heap.objs.size) (.ref z) = false := by simp [Builtin.List.listSameRef, Nat.ne_of_gt (Heap.lt_size hz)]
    rw [this]; decide
  rw [no, if_neg Bool.false_ne_true]
  refine wpAny_bind (wpAny_pyIter_zip (p1 _ _ hz) (wpAny_bind (wpAny_holding ?_)))
  unfold Builtin.List.listLengthHint; refine wpAny_bind (wpAny_specialOf tyz zip_nolen ?_)
  show wpAny _ A.in1 (specialOf (Value.ref z) (Str.ofString "__length_hint__") >>= _) _ _ _
  refine wpAny_bind (wpAny_specialOf tyz zip_nohint (wpAny_pure ?_))
  refine wpAny_bind (wpAny_rule (wpAny_bind ?_))
  unfold Builtin.List.listTouch Builtin.List.listUpdate; refine wpAny_bind (wpAny_updateSeq new rfl ?_)
  have n2 := Heap.get?_update_self (Obj.mapSeq (·.push Value.none)) new rfl
  refine wpAny_updateSeq n2 rfl ?_
  have n3 := Heap.get?_update_self (Obj.mapSeq (·.pop)) n2 rfl
  have oth : ∀ b o, s.heap.get? b = some o → (((s.heap.push (seqObj "list" #[] 0)).update s.heap.objs.size (Obj.mapSeq (·.push Value.none))).update s.heap.objs.size (Obj.mapSeq (·.pop))).get? b = some o :=
    fun b o e => by
      have hb := Nat.ne_of_gt (Heap.lt_size e)
      exact (Heap.get?_update_other _ _ hb).trans ((Heap.get?_update_other _ _ hb).trans (p1 b o e))
  refine wpAny_pure ⟨plainId_quiet F.plain_extend_loop _, ext_zip (J := J) (L := s.heap.objs.size) S D1 D2 hle nL hn jn jf n 0 _ #[] _ (by lia) rfl ⟨oth _ _ hI, D1.frame _ _ _ d1 fun b _ o e => oth b o e, D2.frame _ _ _ d2 fun b _ o e => oth b o e, .inl ⟨rfl, oth _ _ hz, _, _, oth _ _ hO⟩⟩ (fun j v hv => by simp at hv) n3 ?_ (jf #[] s _ s.toks j0 fun c o _ e => oth c o e) fun h' tk acc' c' a1 j1 a2 a3 a4 => ?_⟩
  · rw [Heap.size_update, Heap.size_update, size_push']
    exact Nat.lt_succ_of_lt (Heap.lt_size hO)
  · refine wpAny_bind (wpAny_load a3 (wpAny_pure (h h' tk acc' a1 j1 a2 (fun b o hb e => a4 b o (fun m => ?_) (oth b o e)) (Heap.lt_size a3))))
    simp only [List.mem_cons, List.not_mem_nil, or_false] at m hb
    rcases m with m | m | m | m | m
    · exact hb (.inl m)
    · exact hb (.inr (.inl m))
    · exact hb (.inr (.inr (.inl m)))
    · exact hb (.inr (.inr (.inr m)))
    · exact Nat.ne_of_gt (Heap.lt_size e) m.symm
end
end Own
end
section
set_option maxHeartbeats 4000001
namespace Own
open PySem PySem.Spec PyProof.Rows Ts
section
variable {prog : Program} {w : World} {A : Around} {E : Value → Shared → Prop} {s : Shared}
theorem sortedC {x : Value} {Q : Value → Shared → Prop}
    (h : wpAny (model prog w) A.in1 (collect x) (fun vs s1 => ∃ (κ : SortKind) (rv : Value → Int), vs.length ≤ 63 ∧
      (∀ h' : Heap, (∀ c o, s1.heap.get? c = some o → h'.get? c = some o) → 2 ≤ vs.length → ∀ (A' : Around) {Q : SortKind → Shared → Prop} {E : Value → Shared → Prop}, Q κ { s1 with heap := h' } → wpAny (model prog w) A' (keyKind' vs.toArray) Q E { s1 with heap := h' }) ∧
      (∀ h' : Heap, (∀ c o, s1.heap.get? c = some o → h'.get? c = some o) → ∀ (A' : Around), A'.units ≤ A.units + 8 → Cmp prog w A' { s1 with heap := h' } κ (fun p => p.1 ∈ vs) (fun p => rv p.1)) ∧
      ∀ (h' : Heap) (l : Addr) (e : Nat) (out : List Value), s1.heap.objs.size ≤ l → h'.get? l = some (seqObj "list" out.toArray e) → out.Perm vs → out.Pairwise (fun x y => rv x ≤ rv y) → (∀ c o, s1.heap.get? c = some o → h'.get? c = some o) → Q (.ref l) { s1 with heap := h' }) E s) :
    wpAny (model prog w) A (call (.builtin "sorted") [x]) Q E s := by
  refine Calls.call_function_entry kind_sorted plain_sorted entry_sorted (args_sorted1 _) ?_; unfold Builtin.«sorted»
  refine wpAny_bind (m := checkCount "sorted" 1 1 _) (wpAny_pure (wpAny_bind (wpAny_mono h (fun vs s1 z => ?_) fun _ _ e => e)))
  obtain ⟨κ, rv, hz, hk, hc, fin⟩ := z
  have sl : vs.length ≤ sizeLine := Nat.le_trans hz (by decide)
  refine wpAny_bind (wpAny_newList ?_ (hsz := sl))
  have new : (s1.heap.push (seqObj "list" vs.toArray 0)).get? s1.heap.objs.size = some (seqObj "list" vs.toArray 0) := Heap.get?_push_size _ rfl
  have up : ∀ h' : Heap, (∀ c o, c ≠ s1.heap.objs.size → (s1.heap.push (seqObj "list" vs.toArray 0)).get? c = some o → h'.get? c = some o) → ∀ c o, s1.heap.get? c = some o → h'.get? c = some o := fun h' k c o e => k c o (Nat.ne_of_lt (Heap.lt_size e)) (Heap.get?_push_of_some _ e)
  refine wpAny_bind (wpAny_holding (wpAny_call_entry slot_list_sort ⟨_, new, rfl⟩ entry_list_sort (sort_tree new hz κ rv (fun h' k l2 => hk h' (up h' k) l2 _) (fun h' k => hc h' (up h' k) _ ?_) fun out p1 p2 => ⟨_, rfl, ?_⟩) (args_list_sort _)))
  · show A.units + 1 + 1 ≤ A.units + 8
    lia
  obtain ⟨e, he⟩ := sortedHeap_at (out := out.toArray) new
  refine wpAny_pure ⟨_, rfl, fin _ _ e out (Nat.le_refl _) he p1 p2 fun c o q => ?_⟩
  have lt := Heap.lt_size q
  rw [sortedHeap_old (Nat.ne_of_lt lt) (by rw [size_push']; exact Nat.lt_succ_of_lt lt)]
  exact Heap.get?_push_of_some _ q
end
end Own
namespace L2
open PySem PySem.Spec PyProof.Rows Own Ts
inductive Lx (H : Hp) : Nat → V → V → Ordering → Prop where
  | int (n : Nat) (i j : Int) : Lx H n (.int i) (.int j) (compare i j)
  | row {n : Nat} {a b : Addr} {xs ys : List V} {cs : List Ordering} (ha : H a = some (.tup xs)) (hb : H b = some (.tup ys)) (l1 : xs.length = cs.length) (l2 : ys.length = cs.length) (h : ∀ (i : Nat) u v c, xs[i]? = some u → ys[i]? = some v → cs[i]? = some c → Lx H n u v c) :
      Lx H (n + 1) (.ref a) (.ref b) (cs.foldr Ordering.then .eq)
theorem Lx.pair {H : Hp} {n : Nat} {a b : Addr} {x1 x2 y1 y2 : V} {c1 c2 : Ordering} (ha : H a = some (.tup [x1, x2])) (hb : H b = some (.tup [y1, y2])) (h1 : Lx H n x1 y1 c1) (h2 : Lx H n x2 y2 c2) : Lx H (n + 1) (.ref a) (.ref b) (c1.then c2) := by
  have e : c1.then c2 = [c1, c2].foldr Ordering.then .eq := by cases c1 <;> cases c2 <;> rfl
  rw [e]
  refine .row ha hb rfl rfl fun i u v c hu hv hc => ?_
  rcases i with _ | _ | i
  · cases hu; cases hv; cases hc; exact h1
  · cases hu; cases hv; cases hc; exact h2
  · simp at hu
theorem then_eq : ∀ {cs : List Ordering}, cs.foldr Ordering.then .eq = .eq ↔ ∀ c ∈ cs, c = .eq
  | [] => by simp
  | c :: cs => by
    rw [List.foldr_cons]
    constructor
    · intro h
      cases c <;> simp [Ordering.then] at h
      intro d hd
      rcases List.mem_cons.mp hd with rfl | hd2
      · rfl
      · exact then_eq.mp h d hd2
    · intro h
      rw [h c List.mem_cons_self]
      exact then_eq.mpr fun d hd => h d (List.mem_cons_of_mem _ hd)
theorem then_ne : ∀ {cs : List Ordering}, cs.foldr Ordering.then .eq ≠ .eq → ∃ (k : Nat) (c : Ordering), cs[k]? = some c ∧ c ≠ .eq ∧ cs.foldr Ordering.then .eq = c ∧ ∀ j : Nat, j < k → cs[j]? = some Ordering.eq
  | [], h => absurd rfl h
  | c :: cs, h => by
    by_cases z : c = .eq
    · subst z
      have e : (Ordering.eq :: cs).foldr Ordering.then .eq = cs.foldr Ordering.then .eq := rfl
      rw [e] at h ⊢
      obtain ⟨k, d, h1, h2, h3, h4⟩ := then_ne h
      refine ⟨k + 1, d, by simpa using h1, h2, h3, fun j hj => ?_⟩
      cases j with
      | zero => rfl
      | succ j => simpa using h4 j (by lia)
    · refine ⟨0, c, rfl, z, ?_, fun j hj => by lia⟩
      rw [List.foldr_cons]
      cases c <;> first | rfl | exact absurd rfl z
section
variable {X : Cx}
theorem ord_int (i j : Int) : (compare i j == .eq) = decide (i = j) ∧ (compare i j == .lt) = decide (i < j) := by
  rw [show compare i j = compareOfLessAndEq i j from rfl]
  unfold compareOfLessAndEq
  by_cases h1 : i < j
  · rw [if_pos h1, decide_eq_true h1, decide_eq_false (by lia)]; exact ⟨rfl, rfl⟩
  · rw [if_neg h1, decide_eq_false h1]
    by_cases h2 : i = j
    · rw [if_pos h2, decide_eq_true h2]; exact ⟨rfl, rfl⟩
    · rw [if_neg h2, decide_eq_false h2]; exact ⟨rfl, rfl⟩
theorem Lx.refl {H : Hp} {n : Nat} {x y : V} {c : Ordering} (h : Lx H n x y c) : x = y → c = .eq := by
  induction h with
  | int n i j =>
    intro e
    cases e
    have := (ord_int i i).1
    rw [decide_eq_true rfl] at this
    simpa using this
  | @row n a b xs ys cs ha hb l1 l2 h ih =>
    intro e
    cases e
    rw [ha] at hb
    cases hb
    refine then_eq.mpr fun c hc => ?_
    obtain ⟨i, hi⟩ := List.mem_iff_getElem?.mp hc
    have il := (List.getElem?_eq_some_iff.mp hi).1
    exact ih i _ _ c (List.getElem?_eq_getElem (by lia)) (List.getElem?_eq_getElem (by lia)) hi rfl
theorem lx_eq {pins : List (Addr × Obj)} {σ : St} {H : Hp} {s : Shared} (I : Inv X pins σ H s) {n : Nat} {x y : V} {c : Ordering} (h : Lx H n x y c) : ∀ (A : Around) (u v : Value), A.units + n < cLine → RelV x u → RelV y v → SeqAt.EqAt A s u v (c == .eq) := by
  induction h with
  | int n i j =>
    intro A u v _ r1 r2
    have := eqAt_V (A := A) (s := s) (x := .int j) (y := .int i) r1 r2 rfl rfl
    rw [(ord_int i j).1]
    have e : eqV (.int i) (.int j) = decide (i = j) := by
      show (i == j) = decide (i = j)
      by_cases z : i = j <;> simp [z]
    rwa [e] at this
  | @row n a b xs ys cs ha hb l1 l2 h ih =>
    intro A u v hu r1 r2
    cases r1; cases r2
    by_cases ab : a = b
    · subst ab
      have : cs.foldr Ordering.then .eq = .eq := Lx.refl (.row ha hb l1 l2 h) rfl
      rw [this]; exact SeqAt.EqAt.same _
    · obtain ⟨its, g1, p1, _⟩ := I.tuple (SqT.of ha)
      obtain ⟨jts, g2, p2, _⟩ := I.tuple (SqT.of hb)
      have m1 := g1.length
      have m2 := g2.length
      refine SeqAt.EqAt.of_refs ab ?_
      have e : ((List.range (min its.toArray.size jts.toArray.size)).all (fun j => (cs.getD j .eq) == .eq) && its.toArray.size == jts.toArray.size) = (cs.foldr Ordering.then .eq == .eq) := by
        rw [List.size_toArray, List.size_toArray, ← m1, ← m2, l1, l2, beq_self_eq_true, Bool.and_true, Nat.min_self]
        by_cases z : cs.foldr Ordering.then .eq = .eq
        · rw [z]
          refine (List.all_eq_true.mpr fun j hj => ?_).trans rfl
          have jl := List.mem_range.mp hj
          rw [List.getD_eq_getElem?_getD, List.getElem?_eq_getElem jl, Option.getD_some, then_eq.mp z _ (List.getElem_mem jl)]; rfl
        · obtain ⟨k, d, h1, h2, h3, _⟩ := then_ne z
          have kl := (List.getElem?_eq_some_iff.mp h1).1
          rw [h3]
          have f1 : (d == Ordering.eq) = false := by simpa using h2
          rw [f1]
          refine Bool.eq_false_iff.mpr fun t => ?_
          have := List.all_eq_true.mp t k (List.mem_range.mpr kl)
          rw [List.getD_eq_getElem?_getD, h1, Option.getD_some, f1] at this
          cases this
      have := SeqAt.RcAt.tuples (e := fun j => (cs.getD j .eq) == .eq) p1 p2 (A := A) (s := s) (by lia) (fun j k1 k2 => ?_)
      · rwa [e] at this
      · have k1' : j < xs.length := by simpa [m1] using k1
        have k2' : j < ys.length := by simpa [m2] using k2
        obtain ⟨w1, e1, q1⟩ := g1.get (List.getElem?_eq_getElem k1')
        obtain ⟨w2, e2, q2⟩ := g2.get (List.getElem?_eq_getElem k2')
        have z1 : its.toArray[j] = w1 := by simpa using (List.getElem?_eq_some_iff.mp e1).2
        have z2 : jts.toArray[j] = w2 := by simpa using (List.getElem?_eq_some_iff.mp e2).2
        have kc : j < cs.length := by lia
        rw [z1, z2, List.getD_eq_getElem?_getD, List.getElem?_eq_getElem kc, Option.getD_some]
        exact ih j _ _ _ (List.getElem?_eq_getElem k1') (List.getElem?_eq_getElem k2') (List.getElem?_eq_getElem kc) A.in1 _ _ (by show A.units + 1 + n < cLine; lia) q1 q2
theorem lx_lt {pins : List (Addr × Obj)} {σ : St} {H : Hp} {s : Shared} (I : Inv X pins σ H s) {n : Nat} {x y : V} {c : Ordering} (h : Lx H n x y c) : c ≠ .eq → ∀ (A : Around) (u v : Value), A.units + n < cLine → RelV x u → RelV y v → LtAt A s u v (c == .lt) := by
  induction h with
  | int n i j =>
    intro _ A u v _ ⟨t1, e1⟩ ⟨t2, e2⟩
    subst e1 e2
    rw [(ord_int i j).2]
    exact LtAt.ints i j t1 t2
  | @row n a b xs ys cs ha hb l1 l2 h ih =>
    intro ne A u v hu r1 r2
    cases r1; cases r2
    obtain ⟨its, g1, p1, _⟩ := I.tuple (SqT.of ha)
    obtain ⟨jts, g2, p2, _⟩ := I.tuple (SqT.of hb)
    have m1 := g1.length
    have m2 := g2.length
    obtain ⟨k, d, h1, h2, h3, h4⟩ := then_ne ne
    have kl := (List.getElem?_eq_some_iff.mp h1).1
    have at_ : ∀ j (k1 : j < its.toArray.size) (k2 : j < jts.toArray.size), ∃ (j1 : j < xs.length) (j2 : j < ys.length), RelV xs[j] its.toArray[j] ∧ RelV ys[j] jts.toArray[j] := fun j k1 k2 => by
      have k1' : j < xs.length := by simpa [m1] using k1
      have k2' : j < ys.length := by simpa [m2] using k2
      obtain ⟨w1, e1, q1⟩ := g1.get (List.getElem?_eq_getElem k1')
      obtain ⟨w2, e2, q2⟩ := g2.get (List.getElem?_eq_getElem k2')
      have z1 : its.toArray[j] = w1 := by simpa using (List.getElem?_eq_some_iff.mp e1).2
      have z2 : jts.toArray[j] = w2 := by simpa using (List.getElem?_eq_some_iff.mp e2).2
      rw [z1, z2]
      exact ⟨k1', k2', q1, q2⟩
    rw [h3]
    have b1 : k < its.toArray.size := by rw [List.size_toArray]; lia
    have b2 : k < jts.toArray.size := by rw [List.size_toArray]; lia
    obtain ⟨j1, j2, r1, r2⟩ := at_ k b1 b2
    refine LtAt.tuples (k := k) p1 p2 (by lia) b1 b2 (fun j k1 k2 hj => ?_) ?_ ?_
    · obtain ⟨j1, j2, r1, r2⟩ := at_ j k1 k2
      exact lx_eq I (h j _ _ _ (List.getElem?_eq_getElem j1) (List.getElem?_eq_getElem j2) (h4 j hj)) A.in1 _ _ (by show A.units + 1 + n < cLine; lia) r1 r2
    · have := lx_eq I (h k _ _ _ (List.getElem?_eq_getElem j1) (List.getElem?_eq_getElem j2) h1) A.in1 _ _ (by show A.units + 1 + n < cLine; lia) r1 r2
      rwa [show (d == Ordering.eq) = false from by simpa using h2] at this
    · exact ih k _ _ _ (List.getElem?_eq_getElem j1) (List.getElem?_eq_getElem j2) h1 h2 A.in1 _ _ (by show A.units + 1 + n < cLine; lia) r1 r2
end
end L2
end
section
set_option maxHeartbeats 4000001
namespace L2
open PySem PySem.Spec PyProof.Rows Own Ts
def Rk (H : Hp) (xs : List V) (rk : V → Int) : Prop := (∀ x ∈ xs, ∃ i, x = .int i ∧ rk x = i) ∨ ∃ n, n ≤ 20 ∧ ∀ x ∈ xs, (∃ a f r, x = .ref a ∧ H a = some (.tup (.int f :: r))) ∧ ∀ y ∈ xs, Lx H n x y (compare (rk x) (rk y))
def vOf : Value → V
  | .int i _ => .int i
  | .ref a => .ref a
  | _ => .non
theorem vals_of : ∀ {xs : List V} {us : List Value}, Vals xs us → (∀ x ∈ xs, (∃ i, x = .int i) ∨ ∃ a, x = .ref a) → xs = us.map vOf ∧ ∀ u ∈ us, RelV (vOf u) u
  | _, _, .nil, _ => ⟨rfl, fun u hu => by simp at hu⟩
  | x :: xs, u :: us, .cons r rs, h => by
    obtain ⟨e, f⟩ := vals_of rs fun y hy => h y (List.mem_cons_of_mem _ hy)
    have one : vOf u = x ∧ RelV (vOf u) u := by
      rcases h x List.mem_cons_self with ⟨i, rfl⟩ | ⟨a, rfl⟩
      · obtain ⟨t, rfl⟩ := r; exact ⟨rfl, t, rfl⟩
      · cases r; exact ⟨rfl, rfl⟩
    refine ⟨by rw [List.map_cons, one.1, ← e], fun v hv => ?_⟩
    rcases List.mem_cons.mp hv with rfl | hv2
    · exact one.2
    · exact f v hv2
theorem vals_back : ∀ {us : List Value}, (∀ u ∈ us, RelV (vOf u) u) → Vals (us.map vOf) us
  | [], _ => .nil
  | u :: us, h => .cons (h u List.mem_cons_self) (vals_back fun v hv => h v (List.mem_cons_of_mem _ hv))
theorem Rk.kinds {H : Hp} {xs : List V} {rk : V → Int} (h : Rk H xs rk) : ∀ x ∈ xs, (∃ i, x = .int i) ∨ ∃ a, x = .ref a := fun x hx => by
  rcases h with h | ⟨n, _, h⟩
  · obtain ⟨i, e, _⟩ := h x hx; exact .inl ⟨i, e⟩
  · obtain ⟨⟨a, _, _, e, _⟩, _⟩ := h x hx; exact .inr ⟨a, e⟩
section
variable {prog : Program} {w : World} {A : Around} {E : Value → Shared → Prop} {s : Shared}
theorem one_less {u v : Value} {b : Bool} {Q : Bool → Shared → Prop} (l : LtAt A s u v b) (h : Q b s) : wpAny (model prog w) A (oneLt' false u v) Q E s := by
  rw [oneLt'_eq, if_neg Bool.false_ne_true]
  exact wpAny_bind (l prog w _ _ (wpAny_truthy_bool h))
theorem kat_row {Q : Bool → Shared → Prop} (cs : List Ordering) : ∀ (us vs : List Value) (i : Nat), us.length = cs.length → vs.length = cs.length → (∀ (j : Nat) u v c, us[j]? = some u → vs[j]? = some v → cs[j]? = some c → SeqAt.EqAt A s u v (c == .eq) ∧ (c ≠ .eq → LtAt A s u v (c == .lt))) →
    (i = 0 → ∀ u v c, us[0]? = some u → vs[0]? = some v → cs[0]? = some c → ∃ a b t t', u = .int a t ∧ v = .int b t' ∧ c = compare a b) → Q (cs.foldr Ordering.then .eq == .lt) s → PySem.W.KatLex prog w A true false Q (us.zip vs) i s := by
  induction cs with
  | nil =>
    intro us vs i l1 l2 _ _ q
    rw [List.length_eq_zero_iff.mp l1]
    exact PySem.W.kat_nil q
  | cons c cs ih =>
    intro us vs i l1 l2 h h0 q
    obtain ⟨u, us, rfl⟩ : ∃ u us', us = u :: us' := by
      cases us with
      | nil => simp at l1
      | cons u us => exact ⟨u, us, rfl⟩
    obtain ⟨v, vs, rfl⟩ : ∃ v vs', vs = v :: vs' := by
      cases vs with
      | nil => simp at l2
      | cons v vs => exact ⟨v, vs, rfl⟩
    have hh := h 0 u v c rfl rfl rfl
    refine PySem.W.kat_cons (hh.1 prog w _ _ ?_)
    by_cases z : c = .eq
    · subst z
      refine PySem.W.kat_yes (ih us vs (i + 1) (by simpa using l1) (by simpa using l2) (fun j u v c a1 a2 a3 => h (j + 1) u v c (by simpa using a1) (by simpa using a2) (by simpa using a3)) (fun e => by lia) q)
    · have e1 : (c == Ordering.eq) = false := by simpa using z
      have e2 : (c :: cs).foldr Ordering.then .eq = c := by
        rw [List.foldr_cons]
        cases c <;> first | rfl | exact absurd rfl z
      rw [e2] at q
      rw [e1]
      refine PySem.W.kat_no ?_
      by_cases i0 : i = 0
      · obtain ⟨a, b, t, t', rfl, rfl, ec⟩ := h0 i0 u v c rfl rfl rfl
        subst i0
        rw [ec, (ord_int a b).2] at q
        exact oneLt_int q
      · have : (true && i == 0) = false := by simpa using i0
        rw [this]
        exact one_less (hh.2 z) q
end
section
variable {X : Cx}
theorem asks {pins : List (Addr × Obj)} {σ : St} {H : Hp} {s1 : Shared} (I : Inv X pins σ H s1) (hu : X.A.units + 64 < cLine) {xs : List V} {vs : List Value} {rk : V → Int} (r : Vals xs vs) (R : Rk H xs rk) :
    ∃ κ : SortKind, (∀ h' : Heap, (∀ c o, s1.heap.get? c = some o → h'.get? c = some o) → 2 ≤ vs.length → ∀ (A' : Around) {Q : SortKind → Shared → Prop} {E : Value → Shared → Prop}, Q κ { s1 with heap := h' } → wpAny (model X.prog X.w) A' (keyKind' vs.toArray) Q E { s1 with heap := h' }) ∧
      (∀ h' : Heap, (∀ c o, s1.heap.get? c = some o → h'.get? c = some o) → ∀ (A' : Around), A'.units ≤ X.A.units + 8 → Cmp X.prog X.w A' { s1 with heap := h' } κ (fun p => p.1 ∈ vs) (fun p => rk (vOf p.1))) := by
  obtain ⟨ex, rel⟩ := vals_of r R.kinds
  have mem : ∀ u ∈ vs, vOf u ∈ xs := fun u hu => by rw [ex]; exact List.mem_map.mpr ⟨u, hu, rfl⟩
  rcases R with R | ⟨n, hn, R⟩
  · have nms : ∀ u ∈ vs, ∃ i t, u = .int i t ∧ rk (vOf u) = i := fun u hu => by
      obtain ⟨i, e, ei⟩ := R _ (mem u hu)
      have ru := rel u hu
      rw [e] at ru
      obtain ⟨t, rfl⟩ := ru
      exact ⟨i, t, rfl, ei⟩
    refine ⟨oneType', fun h' k l2 A' Q E q => PySem.W.kas_kind l2 (T := .type "int") (fun v hv => ?_) (by decide) (by decide) q, fun h' k A' _ => ⟨fun x y hx hy Q E q => ?_⟩⟩
    · obtain ⟨i, t, rfl, _⟩ := nms v hv
      exact PySem.W.Looks.of_pure rfl
    · obtain ⟨x1, x2⟩ := x
      obtain ⟨y1, y2⟩ := y
      obtain ⟨i, t, e1, r1⟩ := nms x1 hx
      obtain ⟨j, t', e2, r2⟩ := nms y1 hy
      simp only at q
      rw [r1, r2] at q
      subst e1 e2
      show wpAny _ _ (keyLt' oneType' (.int i t) (.int j t')) _ _ _
      rw [keyLt'_oneType]
      exact oneLt_int q
  · refine ⟨tuples' (Value.type "int" != Value.type "tuple"), fun h' k l2 A' Q E q => ?_, fun h' k A' hA => ⟨fun x y hx hy Q E q => ?_⟩⟩
    · have I' : Inv X pins σ H { s1 with heap := h', toks := s1.toks } := I.kept k
      have kt : ∀ us : List Value, (∀ u ∈ us, vOf u ∈ xs ∧ RelV (vOf u) u) → ∃ fs, PySem.W.KatTups h' us fs ∧ fs.length = us.length ∧ ∀ f ∈ fs, ∃ i t, f = Value.int i t := by
        intro us
        induction us with
        | nil => intro _; exact ⟨[], PySem.W.KatTups.nil, rfl, fun f hf => by simp at hf⟩
        | cons u us ih =>
          intro h
          obtain ⟨fs, k1, k2, k3⟩ := ih fun v hv => h v (List.mem_cons_of_mem _ hv)
          obtain ⟨m1, r1⟩ := h u List.mem_cons_self
          obtain ⟨⟨a, f, rr, e, ha⟩, _⟩ := R _ m1
          rw [e] at r1
          cases r1
          obtain ⟨its, g, ⟨o, eo, co, no, dt⟩, _⟩ := I'.tuple (SqT.of ha)
          obtain ⟨f0, ef, ⟨t0, rfl⟩⟩ := g.get (i := 0) (x := .int f) rfl
          exact ⟨_, PySem.W.KatTups.cons eo co dt (by simpa using ef) k1, by rw [List.length_cons, List.length_cons, k2], fun f' hf => by
            rcases List.mem_cons.mp hf with rfl | hf
            · exact ⟨_, _, rfl⟩
            · exact k3 f' hf⟩
      obtain ⟨fs, k1, k2, k3⟩ := kt vs fun u hu => ⟨mem u hu, rel u hu⟩
      refine PySem.W.kat_kind (T := .type "int") k1 (by lia) (fun v hv => ?_) (by decide) q
      obtain ⟨i, t, rfl⟩ := k3 v hv
      exact PySem.W.Looks.of_pure rfl
    · have I' : Inv X pins σ H { s1 with heap := h', toks := s1.toks } := I.kept k
      obtain ⟨x1, x2⟩ := x
      obtain ⟨y1, y2⟩ := y
      have rx := rel x1 hx
      have ry := rel y1 hy
      obtain ⟨⟨a, f, xr, ea, ha⟩, lx⟩ := R _ (mem x1 hx)
      obtain ⟨⟨b, g, yr, eb, hb⟩, _⟩ := R _ (mem y1 hy)
      have L := lx _ (mem y1 hy)
      simp only at q
      rw [ea] at rx L q
      rw [eb] at ry L q
      cases rx; cases ry
      generalize hc : compare (rk (V.ref a)) (rk (V.ref b)) = c at L
      rw [← (ord_int (rk (V.ref a)) (rk (V.ref b))).2, hc] at q
      cases L with
      | @row n _ _ xs' ys' cs ha' hb' l1 l2 hL =>
        rw [ha] at ha'; cases ha'
        rw [hb] at hb'; cases hb'
        obtain ⟨its, g1, ⟨o1, eo1, co1, no1, dt1⟩, _⟩ := I'.tuple (SqT.of ha)
        obtain ⟨jts, g2, ⟨o2, eo2, co2, no2, dt2⟩, _⟩ := I'.tuple (SqT.of hb)
        have m1 := g1.length
        have m2 := g2.length
        show wpAny _ _ (keyLt' (tuples' true) (.ref a) (.ref b)) _ _ _
        refine PySem.W.kat_lt eo1 dt1 eo2 dt2 ?_
        have ds : decide (its.toArray.size < jts.toArray.size) = false := decide_eq_false (by rw [List.size_toArray, List.size_toArray]; lia)
        rw [ds]
        refine kat_row cs its jts 0 (by lia) (by lia) (fun j u v c hu' hv hc' => ?_) (fun _ u v c hu' hv hc' => ?_) q
        · have j1 : j < (V.int f :: xr).length := by have := (List.getElem?_eq_some_iff.mp hu').1; lia
          have j2 : j < (V.int g :: yr).length := by have := (List.getElem?_eq_some_iff.mp hv).1; lia
          obtain ⟨u', e1, q1⟩ := g1.get (List.getElem?_eq_getElem j1)
          obtain ⟨v', e2, q2⟩ := g2.get (List.getElem?_eq_getElem j2)
          rw [hu'] at e1; obtain rfl := Option.some.inj e1
          rw [hv] at e2; obtain rfl := Option.some.inj e2
          have LL := hL j _ _ c (List.getElem?_eq_getElem j1) (List.getElem?_eq_getElem j2) hc'
          exact ⟨lx_eq I' LL A' _ _ (by lia) q1 q2, fun ne => lx_lt I' LL ne A' _ _ (by lia) q1 q2⟩
        · obtain ⟨u', e1, t1, r1⟩ := g1.get (i := 0) (x := .int f) rfl
          obtain ⟨v', e2, t2, r2⟩ := g2.get (i := 0) (x := .int g) rfl
          rw [hu'] at e1; obtain rfl := Option.some.inj e1
          rw [hv] at e2; obtain rfl := Option.some.inj e2
          have LL := hL 0 (.int f) (.int g) c rfl rfl hc'
          cases LL
          exact ⟨f, g, t1, t2, r1, r2, rfl⟩
end
section
variable {X : Cx}
end
end L2
end
section
set_option maxHeartbeats 4000001
namespace L2
open PySem PySem.Spec PyProof.Rows Own Ts
def Zip2 (H : Hp) (ts xs ys : List V) : Prop := ts.length = xs.length ∧ ∀ (i : Nat) t, ts[i]? = some t → ∃ a x y, t = .ref a ∧ xs[i]? = some x ∧ ys[i]? = some y ∧ H a = some (.tup [x, y])
def tSortZip (K : PySem.W.Frag) (b1 b2 : Bool) (ta : TA) : TE := fun σ H Q => ta σ H fun vs H1 => ∃ a1 a2 xs ys, vs = [.ref a1, .ref a2] ∧ SqB b1 K H1 a1 xs ∧ SqB b2 K H1 a2 ys ∧ ys.length = xs.length ∧ xs.length ≤ 63 ∧
  ∀ ts H2, Same H1 H2 → Zip2 H2 ts xs ys → ∃ rk, Rk H2 ts rk ∧ ∀ l zs, H2 l = none → zs.Perm ts → zs.Pairwise (fun x y => rk x ≤ rk y) → Q (.ref l) (upd H2 l (.lst zs))
theorem pe_sortZip {X : Cx} {a b : Expr} {ta : TA} {p p2 pos pos2 : Pos} (b1 b2 : Bool) (hg : Gl X "sorted") (hm : X.mg "sorted" = none) (hg2 : Gl X "zip") (hm2 : X.mg "zip" = none) (hc : X.calm = true) (hu : X.A.units + 64 < cLine) (ha : PA X [a, b] ta)
    (he : starEach [Expr.Call (.Name "zip" p2) [a, b] [] pos2] X.env = [(false, eval (Expr.Call (.Name "zip" p2) [a, b] [] pos2) X.env)] := by rfl)
    (hs : starEach [a, b] X.env = [(false, eval a X.env), (false, eval b X.env)] := by rfl) (hs2 : starEach [b] X.env = [(false, eval b X.env)] := by rfl) :
    PE X (.Call (.Name "sorted" p) [.Call (.Name "zip" p2) [a, b] [] pos2] [] pos) (tSortZip X.K b1 b2 ta) := by
  intro pins s σ H Q I h
  refine wpAny_Call_Name_kw (ld_blt I hg hm (u := .builtin "sorted") (by rfl) (PyProof.Rows.callWith_builtin1 ?_ he rfl))
  rw [he]
  show wpAny _ _ (spliced ((false, eval (Expr.Call (.Name "zip" p2) [a, b] [] pos2) X.env) :: [])) _ _ s
  refine Calls.spliced_cons ?_
  refine Call_ (ld_blt I hg2 hm2 (u := .type "zip") (by rfl) (PyProof.Rows.callWith_type1 (thn (ha pos2 pins s σ H _ I h) fun us s1 ⟨vs, H1, I1, r1, q1⟩ => ?_) (by rw [hs, hs2]) (by rw [hs2]; rfl)))
  obtain ⟨a1, a2, xs, ys, rfl, hq1, hq2, hl, hz, q⟩ := q1
  obtain ⟨u, v, rfl, ru, rv⟩ := r1.two
  cases ru
  cases rv
  obtain ⟨its, rx, pl1⟩ := I1.sq hq1
  obtain ⟨jts, ry, pl2⟩ := I1.sq hq2
  have lx := rx.length
  have ly := ry.length
  refine callType_new F.called_zip (by decide) (F.typeCall_zip_2 _ _) (F.newCall_zip_2 _ _) (fun obj => F.args_object_init_3 obj _ _) F.entry_zip_new (zip_new b1 b2 a1 a2 its.toArray jts.toArray) ⟨pl1, pl2, fun h' z ⟨TI, TO, i1, i2, nd, far, hzz, hI, hO, h1, h2⟩ hk => ⟨⟨_, hzz, rfl⟩, ?_⟩⟩
  refine Calls.spliced_nil ?_
  have I2 : Inv X pins σ H1 { s1 with heap := h', toks := s1.toks } := I1.kept hk
  have fp : ∀ c ∈ [z, TI, TO, i1, i2], FpOk X pins H1 c := fun c hc => I1.fpOk (far c hc) (I1.hok.fresh (far c hc))
  have na1 : ∀ c ∈ [z, TI, TO, i1, i2], c ≠ a1 := fun c hm => I1.sq_ne hq1 (fp c hm)
  have na2 : ∀ c ∈ [z, TI, TO, i1, i2], c ≠ a2 := fun c hm => I1.sq_ne hq2 (fp c hm)
  have nd' := nd
  simp only [List.nodup_cons, List.mem_cons, List.not_mem_nil, or_false, not_or] at nd'
  obtain ⟨⟨zI, zO, z1, z2⟩, ⟨IO, iI1, iI2⟩, ⟨O1, O2⟩, n12, _⟩ := nd'
  have S : Sep z TI TO i1 i2 [i1, a1] [i2, a2] := ⟨nd, by simp [z1, na1 z (by simp)], by simp [O1, na1 TO (by simp)], by simp [Ne.symm n12, na1 i2 (by simp)], by simp [z2, na2 z (by simp)], by simp [O2, na2 TO (by simp)], by simp [n12, na2 i1 (by simp)]⟩
  have hd := I1.ok.hd hc
  have q1' : SqO b1 h' a1 its.toArray := pl1.mv fun o e => hk _ _ e
  have q2' : SqO b2 h' a2 jts.toArray := pl2.mv fun o e => hk _ _ e
  have n12s : its.toArray.size = jts.toArray.size := by rw [List.size_toArray, List.size_toArray]; lia
  have D1 := draws (prog := X.prog) (w := X.w) (A := X.A.in1.in1.in1) hd b1 i1 a1 its.toArray (q1'.ne h1)
  have D2 := draws (prog := X.prog) (w := X.w) (A := X.A.in1.in1.in1) hd b2 i2 a2 jts.toArray (q2'.ne h2)
  rw [← n12s] at D2
  have low : ∀ c ∈ [i1, a1] ++ [i2, a2], c < h'.objs.size := fun c hc => by
    obtain ⟨o1, n1, e1, _⟩ := q1'.ob
    obtain ⟨o2, n2, e2, _⟩ := q2'.ob
    simp only [List.cons_append, List.nil_append, List.mem_cons, List.not_mem_nil, or_false] at hc
    rcases hc with rfl | rfl | rfl | rfl
    · exact Heap.lt_size h1
    · exact Heap.lt_size e1
    · exact Heap.lt_size h2
    · exact Heap.lt_size e2
  have fpL : FpOk X pins H1 h'.objs.size := I2.fpOk (Nat.le_refl _) (I2.hok.fresh (Nat.le_refl _))
  have lows : ∀ c ∈ [z, TO, i1, i2], c < h'.objs.size := fun c hc => by
    simp only [List.mem_cons, List.not_mem_nil, or_false] at hc
    rcases hc with rfl | rfl | rfl | rfl
    · exact Heap.lt_size hzz
    · exact Heap.lt_size hO
    · exact Heap.lt_size h1
    · exact Heap.lt_size h2
  refine sortedC (gather_zip (J := fun acc s' => ∃ (ts : List Addr) (Hk : Hp), Inv X pins σ Hk s' ∧ Same H1 Hk ∧ acc.toList = ts.map Value.ref ∧ (∀ (i : Nat) t, ts[i]? = some t → ∃ x y, xs[i]? = some x ∧ ys[i]? = some y ∧ Hk t = some (.tup [x, y])) ∧ (∀ c ∈ [z, TO, i1, i2, h'.objs.size], FpOk X pins Hk c)) S D1 D2 (Nat.le_refl _) hzz hI hO ⟨h1, q1'⟩ ⟨h2, q2'⟩ low ?_ ?_ ?_ ?_ ?_)
  · rw [List.size_toArray]; exact Nat.le_trans (show _ ≤ 63 by lia) (by decide)
  · rintro acc s' h2' tk x y ⟨ts, Hk, Ik, sm, ea, ht, fk⟩ lt px py new kk
    have il : acc.size < xs.length := by
      have b : acc.size < its.toArray.size := (Array.getElem?_eq_some_iff.mp px).1
      have b2 : its.toArray.size = its.length := List.size_toArray ..
      lia
    obtain ⟨u, e1, r1⟩ := rx.get (List.getElem?_eq_getElem il)
    obtain ⟨v, e2, r2⟩ := ry.get (List.getElem?_eq_getElem (show acc.size < ys.length by lia))
    have px' : its[acc.size]? = some x := by simpa using px
    have py' : jts[acc.size]? = some y := by simpa using py
    rw [px'] at e1; obtain rfl := Option.some.inj e1
    rw [py'] at e2; obtain rfl := Option.some.inj e2
    have nT : ∀ c ∈ [z, TO, i1, i2, h'.objs.size], c ≠ s'.heap.objs.size := fun c hc => by
      simp only [List.mem_cons, List.not_mem_nil, or_false] at hc
      rcases hc with rfl | rfl | rfl | rfl | rfl
      · exact Nat.ne_of_lt (Nat.lt_trans (Heap.lt_size hzz) lt)
      · exact Nat.ne_of_lt (Nat.lt_trans (Heap.lt_size hO) lt)
      · exact Nat.ne_of_lt (Nat.lt_trans (Heap.lt_size h1) lt)
      · exact Nat.ne_of_lt (Nat.lt_trans (Heap.lt_size h2) lt)
      · exact Nat.ne_of_lt lt
    have fk4 : ∀ c ∈ [z, TO, i1, i2], FpOk X pins Hk c := fun c hc => fk c (by simp only [List.mem_cons, List.not_mem_nil, or_false] at hc ⊢; rcases hc with m | m | m | m <;> simp [m])
    have fr : Hk s'.heap.objs.size = none := Ik.fresh
    have al : acc.size = ts.length := by rw [← Array.length_toList, ea, List.length_map]
    refine ⟨ts ++ [s'.heap.objs.size], _, Ik.spunN (fp := [z, TO, i1, i2]) kk fk4 (Nat.le_refl _) (pair_ok new r1 r2), sm.trans (same_new fr _), by rw [Array.toList_push, ea, List.map_append]; rfl, fun i t hi => ?_, fun c hc => ⟨by rw [upd_ne (nT c hc)]; exact (fk c hc).1, (fk c hc).2⟩⟩
    by_cases q : i < ts.length
    · rw [List.getElem?_append_left q] at hi
      obtain ⟨x', y', a1', a2', a3'⟩ := ht i t hi
      exact ⟨x', y', a1', a2', same_new fr _ _ _ a3'⟩
    · have il2 := (List.getElem?_eq_some_iff.mp hi).1
      rw [List.length_append] at il2
      have il3 : i = ts.length := by simp at il2; lia
      subst il3
      rw [List.getElem?_append_right (Nat.le_refl _), Nat.sub_self] at hi
      obtain rfl : s'.heap.objs.size = t := by simpa using hi
      rw [← al]
      exact ⟨_, _, List.getElem?_eq_getElem il, List.getElem?_eq_getElem (show acc.size < ys.length by lia), upd_same⟩
  · rintro acc s' h2' tk ⟨ts, Hk, Ik, sm, ea, ht, fk⟩ kk
    exact ⟨ts, Hk, Ik.spun (fp := [z, TO, i1, i2, h'.objs.size]) kk fk, sm, ea, ht, fk⟩
  · refine ⟨[], H1, I2, Same.refl _, rfl, fun i t hi => by simp at hi, fun c hc => ?_⟩
    simp only [List.mem_cons, List.not_mem_nil, or_false] at hc
    rcases hc with rfl | rfl | rfl | rfl | rfl
    · exact fp _ (by simp)
    · exact fp _ (by simp)
    · exact fp _ (by simp)
    · exact fp _ (by simp)
    · exact fpL
  · rintro h2' tk acc hn ⟨ts, Hk, Ik, sm, ea, ht, fk⟩ _ kk lt
    have tl : ts.length = xs.length := by
      have : acc.toList.length = ts.length := by rw [ea, List.length_map]
      rw [Array.length_toList, hn, List.size_toArray] at this; lia
    obtain ⟨rk, Rr, fin⟩ := q (ts.map V.ref) Hk sm ⟨by rw [List.length_map]; exact tl, fun i t hi => by
      rw [List.getElem?_map] at hi
      obtain ⟨t', e', rfl⟩ := Option.map_eq_some_iff.mp hi
      obtain ⟨x, y, a1', a2', a3'⟩ := ht i t' e'
      exact ⟨t', x, y, rfl, a1', a2', a3'⟩⟩
    have vr : Vals (ts.map V.ref) acc.toList := by
      rw [ea]
      clear ht ea tl Rr fin
      induction ts with
      | nil => exact .nil
      | cons t ts ih => exact .cons rfl ih
    obtain ⟨κ, ak, ac⟩ := asks Ik hu vr Rr
    refine ⟨κ, fun u => rk (vOf u), by rw [Array.length_toList, hn, List.size_toArray]; lia, ak, ac, fun h3 l e out lo eo pm so k3 => ?_⟩
    obtain ⟨ex, rel⟩ := vals_of vr Rr.kinds
    have vo : Vals (out.map vOf) out := vals_back fun u hu => rel u (pm.mem_iff.mp hu)
    refine ⟨.ref l, _, Ik.laid (t' := tk) (o := .lst (out.map vOf)) k3 lo ⟨?_, out, e, vo, eo⟩, rfl, fin l _ (Ik.hok.fresh lo) ?_ ?_⟩
    · rw [List.length_map, pm.length_eq, Array.length_toList, hn, List.size_toArray]; exact Nat.le_trans (show _ ≤ 63 by lia) (by decide)
    · rw [ex]; exact pm.map vOf
    · exact List.pairwise_map.mpr so
end L2
end
section
set_option maxHeartbeats 4000001
namespace Bn
open PySem L2 Own
theorem atNew {H : Hp} {a : Addr} (_ : H a = none) (o : HO) : L2.upd H a o a = some o := upd_same
def decF (H : Hp) : V → Fk
  | .ref g => match H g with
    | some (.tup [.int a, .int b]) => (a.toNat, b.toNat)
    | _ => (0, 0)
  | _ => (0, 0)
def dec (H : Hp) : V → Int × Fk
  | .ref t => match H t with
    | some (.tup [.int l, x]) => (l, decF H x)
    | _ => (0, (0, 0))
  | _ => (0, (0, 0))
theorem decF_at {H : Hp} {g : Addr} {f : Fk} (h : H g = some (.tup [.int f.1, .int f.2])) : decF H (.ref g) = f := by
  simp only [decF, h]
  obtain ⟨a, b⟩ := f
  simp
theorem dec_at {H : Hp} {t g : Addr} {l : Int} {f : Fk} (h : H t = some (.tup [.int l, .ref g])) (hg : H g = some (.tup [.int f.1, .int f.2])) : dec H (.ref t) = (l, f) := by
  show (match H t with | some (.tup [.int l, x]) => (l, decF H x) | _ => (0, (0, 0))) = (l, f)
  rw [h]
  show (l, decF H (.ref g)) = (l, f)
  rw [decF_at hg]
def Trp (H : Hp) (x : V) (p : Int × Fk) : Prop := ∃ t g, x = .ref t ∧ H t = some (.tup [.int p.1, .ref g]) ∧ H g = some (.tup [.int p.2.1, .int p.2.2])
theorem Trp.dec {H : Hp} {x : V} {p : Int × Fk} (h : Trp H x p) : dec H x = p := by
  obtain ⟨t, g, rfl, h1, h2⟩ := h
  exact dec_at h1 h2
theorem cmp_then {i j : Int} : (compare i j = .lt ↔ i < j) ∧ (compare i j = .eq ↔ i = j) ∧ (compare i j = .gt ↔ j < i) := by
  rw [show compare i j = compareOfLessAndEq i j from rfl]
  unfold compareOfLessAndEq
  by_cases h1 : i < j
  · rw [if_pos h1]; simp [h1]; lia
  · rw [if_neg h1]
    by_cases h2 : i = j
    · rw [if_pos h2]; simp [h2]
    · rw [if_neg h2]; simp [h1, h2]; lia
theorem cmp_of {i j : Int} {c : Ordering} (h : (c = .lt → i < j) ∧ (c = .eq → i = j) ∧ (c = .gt → j < i)) : compare i j = c := by
  cases c with
  | lt => exact cmp_then.1.mpr (h.1 rfl)
  | eq => exact cmp_then.2.1.mpr (h.2.1 rfl)
  | gt => exact cmp_then.2.2.mpr (h.2.2 rfl)
theorem cmp2 {a b a' b' : Int} (h1 : 0 ≤ b ∧ b < 32) (h2 : 0 ≤ b' ∧ b' < 32) : compare (a * 32 + b) (a' * 32 + b') = (compare a a').then (compare b b') := by
  apply cmp_of
  have c1 := @cmp_then a a'
  have c2 := @cmp_then b b'
  cases e : compare a a' <;> rw [e] at c1 <;> simp at c1
  · refine ⟨fun _ => by lia, fun z => ?_, fun z => ?_⟩ <;> cases z
  · cases f : compare b b' <;> rw [f] at c2 <;> simp at c2
    · refine ⟨fun _ => by lia, fun z => ?_, fun z => ?_⟩ <;> cases z
    · refine ⟨fun z => ?_, fun _ => by lia, fun z => ?_⟩ <;> cases z
    · refine ⟨fun z => ?_, fun z => ?_, fun _ => by lia⟩ <;> cases z
  · refine ⟨fun z => ?_, fun z => ?_, fun _ => by lia⟩ <;> cases z
theorem lx_fork {H : Hp} {n : Nat} {g g' : Addr} {f f' : Fk} (h : H g = some (.tup [.int f.1, .int f.2])) (h' : H g' = some (.tup [.int f'.1, .int f'.2])) (b : f.2 < 32) (b' : f'.2 < 32) :
    Lx H (n + 1) (.ref g) (.ref g') (compare ((f.1 : Int) * 32 + f.2) ((f'.1 : Int) * 32 + f'.2)) := by
  rw [cmp2 (by lia) (by lia)]
  exact Lx.pair h h' (.int _ _ _) (.int _ _ _)
theorem lx_trp {H : Hp} {x y : V} {p q : Int × Fk} (hx : Trp H x p) (hy : Trp H y q) (b : p.2.1 < 32 ∧ p.2.2 < 32) (b' : q.2.1 < 32 ∧ q.2.2 < 32) : Lx H 2 x y (compare (rnk p) (rnk q)) := by
  obtain ⟨t, g, rfl, h1, h2⟩ := hx
  obtain ⟨t', g', rfl, h3, h4⟩ := hy
  have e : compare (rnk p) (rnk q) = (compare p.1 q.1).then (compare ((p.2.1 : Int) * 32 + p.2.2) ((q.2.1 : Int) * 32 + q.2.2)) := by
    apply cmp_of
    have c1 := @cmp_then p.1 q.1
    have c2 := @cmp_then ((p.2.1 : Int) * 32 + p.2.2) ((q.2.1 : Int) * 32 + q.2.2)
    unfold rnk
    cases e : compare p.1 q.1 <;> rw [e] at c1 <;> simp at c1
    · refine ⟨fun _ => by lia, fun z => ?_, fun z => ?_⟩ <;> cases z
    · cases f : compare ((p.2.1 : Int) * 32 + p.2.2) ((q.2.1 : Int) * 32 + q.2.2) <;> rw [f] at c2 <;> simp at c2
      · refine ⟨fun _ => by lia, fun z => ?_, fun z => ?_⟩ <;> cases z
      · refine ⟨fun z => ?_, fun _ => by lia, fun z => ?_⟩ <;> cases z
      · refine ⟨fun z => ?_, fun z => ?_, fun _ => by lia⟩ <;> cases z
    · refine ⟨fun z => ?_, fun z => ?_, fun _ => by lia⟩ <;> cases z
  rw [e]
  exact Lx.pair h1 h3 (.int _ _ _) (lx_fork h2 h4 b.2 b'.2)
theorem zip_trp {H : Hp} {ts ps : List V} {ls : List Int} {fs : List Fk} (z : Zip2 H ts (ls.map V.int) ps) (pr : Prs H ps fs) : ts.map (dec H) = ls.zip fs ∧ ∀ x ∈ ts, Trp H x (dec H x) := by
  have pl := pr.len
  have tl := z.1
  rw [List.length_map] at tl
  have at_ : ∀ (i : Nat) t, ts[i]? = some t → ∃ l f, ls[i]? = some l ∧ fs[i]? = some f ∧ Trp H t (l, f) := fun i t ht => by
    obtain ⟨a, x, y, rfl, hx, hy, ha⟩ := z.2 i t ht
    rw [List.getElem?_map] at hx
    obtain ⟨l, hl, rfl⟩ := Option.map_eq_some_iff.mp hx
    obtain ⟨g, f, rfl, hf, hg⟩ := pr.get hy
    exact ⟨l, f, hl, hf, a, g, rfl, ha, hg⟩
  refine ⟨List.ext_getElem? fun i => ?_, fun x hx => ?_⟩
  · rw [List.getElem?_map]
    cases e : ts[i]? with
    | none =>
      have il := List.getElem?_eq_none_iff.mp e
      exact (List.getElem?_eq_none_iff.mpr (by rw [List.length_zip]; lia)).symm
    | some t =>
      obtain ⟨l, f, hl, hf, tr⟩ := at_ i t e
      rw [Option.map_some, tr.dec]
      exact (List.getElem?_zip_eq_some.mpr ⟨hl, hf⟩).symm
  · obtain ⟨i, hi⟩ := List.mem_iff_getElem?.mp hx
    obtain ⟨l, f, _, _, tr⟩ := at_ i x hi
    rw [tr.dec]; exact tr
theorem pz_zip (N : Nt) : pz N = (layers N).zip N.forks := by
  rw [← pz_layers, ← pz_forks]
  induction pz N with
  | nil => rfl
  | cons x l ih => rw [List.map_cons, List.map_cons, List.zip_cons_cons, ← ih]
end Bn
end
section
set_option maxHeartbeats 4000001
namespace Bn
open PySem L2 Own
end Bn
end
section
set_option maxHeartbeats 4000001
namespace Bn
open PySem L2 Own
end Bn
end
section
set_option maxHeartbeats 4000001
namespace L2
open PySem PySem.Spec PyProof.Rows Own
section
variable {X : Cx}
end
end L2
namespace Bn
open PySem L2 Own
end Bn
end
section
set_option maxHeartbeats 4000001
namespace Bn
open PySem L2 Own
end Bn
end
section
set_option maxHeartbeats 4000001
namespace L2
open PySem PySem.Spec PyProof.Rows Own
section
variable {prog : Program} {w : World} {A : Around} {E : Value → Shared → Prop} {it l : Addr} {items : Array Value}
end
section
variable {X : Cx}
end
end L2
end
section
set_option maxHeartbeats 4000001
namespace L2
open PySem PySem.Spec PyProof.Rows Own
theorem walks_from1 {prog : Program} {w : World} {A : Around} {I : Addr} {fp wr : List Addr} {n : Nat} {P : Nat → Value → Prop} {St : Nat → Heap → Prop} (W : Walks prog w A I fp wr (n + 1) P St) : Walks prog w A I fp wr n (fun i => P (i + 1)) (fun i => St (i + 1)) where
  sub := W.sub
  frame := fun i => W.frame (i + 1)
  item := fun i s Q E hi st hQ => W.item (i + 1) s Q E (by lia) st hQ
  done := fun s Q E st hQ => W.done s Q E st hQ
  self := fun i s Q E st hQ => W.self (i + 1) s Q E st hQ
section
variable {prog : Program} {w : World} {A : Around} {E : Value → Shared → Prop} {l : Addr} {items : Array Value}
theorem unpack_star {s : Shared} {t1 t2 : Value → Sem Unit} {Q : Unit → Shared → Prop} {x : Value} (calm : A.handled = none) (is : s.heap.IsList l items) (h0 : items[0]? = some x) (hz : items.size ≤ sizeLine)
    (k : ∀ (g : Heap) (tk : Nat), (∀ b o, s.heap.get? b = some o → g.get? b = some o) → wpAny (model prog w) A (assignInOrder [t1, t2] [x, .ref g.objs.size]) Q E { s with heap := g.push { cls := .type "list", data := .seq (items.toList.drop 1).toArray }, toks := tk }) :
    wpAny (model prog w) A (unpack (.ref l) [(false, t1), (true, t2)]) Q E s := by
  have apart : l ≠ s.heap.objs.size := by
    obtain ⟨o, e, _⟩ := is
    exact Nat.ne_of_lt (Heap.lt_size e)
  have n1 : 0 < items.size := (Array.getElem?_eq_some_iff.mp h0).1
  unfold unpack
  show wpAny _ _ (holding [Value.ref l] (unpackItems (.ref l) 2 (some 1)) >>= _) _ _ _
  refine wpAny_bind (m := holding _ _) (wpAny_holding ?_)
  unfold unpackItems
  refine wpAny_bind (m := notIterableAtAll _) ?_
  unfold notIterableAtAll
  refine wpAny_bind (wpAny_specialOf is.typeIs PySem.slot_list_iter.lookup (wpAny_pure ?_))
  simp only [if_false, Bool.false_eq_true]
  refine wpAny_bind (wpAny_holding (wpAny_pyIter_list is ?_))
  refine wpAny_bind (wpAny_holding (show wpAny (model prog w) A _ _ _ _ from ?_))
  unfold draw
  refine wpAny_bind (wpAny_pyNext_list_item (i := 0) ⟨_, Heap.get?_push_size _ rfl, rfl, rfl⟩ (is.push _) h0 fun g at1 same1 => ?_)
  refine wpAny_bind (wpAny_holding (show wpAny _ _ (pure []) _ _ _ from wpAny_pure (wpAny_pure ?_)))
  rw [if_neg (by simp)]
  refine wpAny_bind (wpAny_holding (show wpAny (model prog w) A _ _ _ _ from ?_))
  have sz : items.size = (items.size - 1) + 1 := by lia
  have W := Walks.list (prog := prog) (w := w) (A := A.in1) calm s.heap.objs.size l apart items
  rw [sz] at W
  have gsz : g.objs.size = s.heap.objs.size + 1 := by rw [same1.1, Heap.size_push]
  refine wpAny_collect_iter (.inr (.inr (.inl rfl))) (walks_from1 W).toS (fun i s st => st.1.typeIs) ⟨at1, (is.push _).extBut same1.extBut apart⟩ (fun b hb => ?_) (by simp) (fun s' acc mv io => ?_) (by lia)
  · show b < g.objs.size
    rw [gsz]
    simp only [List.mem_cons, List.mem_nil_iff, or_false] at hb
    rcases hb with rfl | rfl
    · exact Nat.lt_succ_self _
    · obtain ⟨o, e, _⟩ := is
      exact Nat.lt_succ_of_lt (Heap.lt_size e)
  have ea : acc.toList = items.toList.drop 1 := by
    refine List.ext_getElem? fun j => ?_
    rw [Array.getElem?_toList, List.getElem?_drop, Array.getElem?_toList]
    cases e : acc[j]? with
    | some v => rw [Nat.add_comm]; exact (io.2 j v e).symm
    | none =>
      have : acc.size ≤ j := Array.getElem?_eq_none_iff.mp e
      exact (Array.getElem?_eq_none_iff.mpr (by have := io.1; lia)).symm
  obtain ⟨hp, gs, dr, tk, os⟩ := s'
  obtain ⟨m1, m2, m3, m4, m5⟩ := mv
  dsimp only at m1 m2 m3 m4 m5 ⊢
  subst m2 m3 m4
  rw [if_neg (show ¬ acc.toList.length < 2 - 1 - 1 by lia)]
  refine wpAny_bind (wpAny_newObj_type ?_ (by show (acc.toList.take (acc.toList.length - (2 - 1 - 1))).toArray.size ≤ sizeLine; rw [List.size_toArray, List.length_take, Array.length_toList, io.1]; lia))
  have e1 : acc.toList.take (acc.toList.length - (2 - 1 - 1)) = items.toList.drop 1 := by rw [show acc.toList.length - (2 - 1 - 1) = acc.toList.length by lia, List.take_length, ea]
  have e2 : acc.toList.drop (acc.toList.length - (2 - 1 - 1)) = [] := List.drop_eq_nil_of_le (by lia)
  rw [e1, e2]
  refine wpAny_pure ?_
  refine k hp tk fun b o e => m1 b o ?_ (same1.extBut b o (Nat.ne_of_lt (Heap.lt_size e)) (Heap.get?_push_of_some _ e))
  simp only [List.mem_cons, List.mem_nil_iff, or_false]
  exact Nat.ne_of_lt (Heap.lt_size e)
end
section
variable {X : Cx}
def gStar (K : PySem.W.Frag) (t : TGs) : TG := fun v σ H Q => ∃ a x xs, v = .ref a ∧ SqL K H a (x :: xs) ∧ ∀ l, H l = none → t [x, .ref l] σ (upd H l (.lst xs)) Q
theorem pg_star {t1 t2 : Expr} {p pos : Pos} {k : Nat} {t : TGs} (hc : X.calm = true) (h : PGs X [t1, t2] t)
    (ha : assignEach [t1, .Starred t2 p] X.env = [(false, assign t1 X.env), (true, assign t2 X.env)] := by rfl) (hb : (assignEach [t1, t2] X.env).map (·.2) = [assign t1 X.env, assign t2 X.env] := by rfl) : PG X (.Tuple [t1, .Starred t2 p] k pos) (gStar X.K t) := by
  intro pins s σ H v u Q I r hw
  obtain ⟨a, x, xs, rfl, hq, hw⟩ := hw
  cases r
  obtain ⟨its, rv, pl, hz⟩ := I.list hq
  cases rv with
  | @cons _ y _ ys ry rys =>
  rw [PyProof.Rows.assign_Tuple]
  refine wpAny_bind (wpAny_standAt ?_)
  rw [ha]
  refine unpack_star (x := y) (I.ok.hd hc) pl.isList (by simp) (by rw [List.size_toArray, List.length_cons, ← rys.length]; exact hz) fun g tk kk => ?_
  have I1 : Inv X pins σ H { s with heap := g } := I.kept (t' := s.toks) kk
  have e : ((y :: ys).toArray.toList.drop 1).toArray = ys.toArray := rfl
  rw [e]
  have I2 : Inv X pins σ (upd H g.objs.size (.lst xs)) { s with heap := g.push { cls := .type "list", data := .seq ys.toArray }, toks := tk } :=
    I1.laid (t' := tk) (o := .lst xs) (fun b o q => Heap.get?_push_of_some _ q) (Nat.le_refl _) ⟨by simp only [List.length_cons] at hz; lia, ys, 0, rys, Heap.get?_push_size _ rfl⟩
  have := h pins _ σ _ [x, .ref g.objs.size] [y, .ref g.objs.size] Q I2 (.cons ry (.cons rfl .nil)) (hw _ (I1.hok.fresh (Nat.le_refl _)))
  rw [hb] at this
  exact this
abbrev TF := Str → St → Hp → (Str → Hp → Prop) → Prop
def PFs (X : Cx) (es : List Expr) (t : TF) : Prop := ∀ (out : Str) (pins : List (Addr × Obj)) (s : Shared) (σ : St) (H : Hp) (Q : Str → Hp → Prop), out.length ≤ sizeLine → Inv X pins σ H s → t out σ H Q →
  wpAny (model X.prog X.w) X.A (joinParts out (evalEach es X.env)) (EP X pins σ fun v H' => ∃ z, v = .str z ∧ Q z H') X.xe s
def fNil : TF := fun out _ H Q => Q out H
def fStr (x : Str) (r : TF) : TF := fun out σ H Q => out.length + x.length ≤ sizeLine ∧ r (out ++ x) σ H Q
def fInt (te : TE) (r : TF) : TF := fun out σ H Q => te σ H fun v H1 => ∃ i : Int, v = .int i ∧ i.natAbs.log2 < 1920 ∧ out.length + (Bn.txt i).length ≤ sizeLine ∧ r (out ++ Bn.txt i) σ H1 Q
theorem pfs_nil : PFs X [] fNil := fun out pins s σ H Q hz I q => joinParts_nil ⟨.str out, H, I.tok _, ⟨_, rfl⟩, out, rfl, q⟩ hz
theorem pfs_str {x : Str} {j p} {es : List Expr} {t : TF} (h : PFs X es t) : PFs X (.Constant (.str x) j p :: es) (fStr x t) := by
  intro out pins s σ H Q hz I ⟨hl, q⟩
  refine joinParts_cons (Calls.Constant_str ?_)
  have e : (out ++ x).length ≤ sizeLine := by rw [Str.length_append]; exact hl
  exact ⟨e, h _ pins _ σ H Q e (I.tok _) q⟩
theorem pfs_int {e : Expr} {te : TE} {p : Pos} {es : List Expr} {t : TF} (he : PE X e te) (h : PFs X es t) : PFs X (.FormattedValue e (-1) none p :: es) (fInt te t) := by
  intro out pins s σ H Q hz I q
  refine joinParts_cons (FormattedValue_plain (thn (he pins s σ H _ I q) fun u s1 ⟨v, H1, I1, r1, i, ev, hd, hl, q1⟩ => ?_))
  subst ev
  obtain ⟨tk, rfl⟩ := r1
  refine formatField_int_small hd ?_
  have e : (out ++ Bn.txt i).length ≤ sizeLine := by rw [Str.length_append]; exact hl
  exact ⟨e, h _ pins _ σ H1 Q e (I1.tok _) q1⟩
theorem pe_fstr {e1 e2 : Expr} {es : List Expr} {pos : Pos} {t : TF} (h : PFs X (e1 :: e2 :: es) t) : PE X (.JoinedStr (e1 :: e2 :: es) pos) (fun σ H Q => t Str.empty σ H fun z H' => Q (.str z) H') := by
  intro pins s σ H Q I q
  refine JoinedStr_many (thn (h Str.empty pins s σ H _ (Nat.zero_le _) I q) fun u s1 ⟨v, H1, I1, r1, z, ev, q1⟩ => ?_)
  subst ev
  exact ⟨_, H1, I1, r1, q1⟩
end
end L2
end
section
set_option maxHeartbeats 4000001
namespace Bn
open PySem PySem.Spec PyProof.Rows PySem.NumText Builtin Builtin.Str
def sSp : Str := ⟨#[32]⟩
def sNl : Str := ⟨#[10]⟩
def lanesR (n : Nat) : Str := Str.ofString "lanes " ++ txt (n : Nat)
def forkR (f : Nat × Nat) : Str := txt (f.1 : Nat) ++ Str.ofString " " ++ txt (f.2 : Nat)
def endsR (es : List Nat) : Str := Txt.join sSp (Str.ofString "ends" :: es.map fun (e : Nat) => txt (e : Int))
def rowsN (lanes : Nat) (fs : List (Nat × Nat)) (es : List Nat) : List Str := lanesR lanes :: (fs.map forkR ++ [endsR es])
def netT (lanes : Nat) (fs : List (Nat × Nat)) (es : List Nat) : Str := Txt.join sNl (rowsN lanes fs es)
theorem split_joinC (c : Nat) {ss : List Str} (h : ss ≠ []) (f : ∀ a ∈ ss, c ∉ a.cps.toList) : Txt.split (Txt.join ⟨#[c]⟩ ss) ⟨#[c]⟩ = ss := by
  refine join_unique (c := c) ?_ h (StrLaws.split_free _ c) f ?_
  · intro z
    have := split_pos (Txt.join ⟨#[c]⟩ ss) ⟨#[c]⟩
    rw [z] at this; simp at this
  · rw [StrLaws.join_split]
    exact StrLaws.glued_eq_join _ _
theorem join_mem {s : Str} {c : Nat} : ∀ {ss : List Str}, c ∈ (Str.join s ss).cps.toList → c ∈ s.cps.toList ∨ ∃ a ∈ ss, c ∈ a.cps.toList
  | [], h => by simp [Str.join] at h; exact absurd h (by simp [Str.empty])
  | [a], h => .inr ⟨a, List.mem_cons_self, h⟩
  | a :: b :: r, h => by
    have h' : c ∈ (a ++ s ++ Str.join s (b :: r)).cps.toList := h
    rw [Str.cps_append, Str.cps_append, Array.toList_append, Array.toList_append] at h'
    rcases List.mem_append.mp h' with q | q
    · rcases List.mem_append.1 q with q | q
      · exact .inr ⟨a, List.mem_cons_self, q⟩
      · exact .inl q
    · rcases join_mem q with z | ⟨x, hx, z⟩
      · exact .inl z
      · exact .inr ⟨x, List.mem_cons_of_mem _ hx, z⟩
theorem txt_no {n : Int} {c : Nat} (h : c ≠ 45) (h2 : c < 48) : c ∉ (txt n).cps.toList := fun q => by
  rcases txt_signs n c q with z | z <;> lia
theorem lanesR_join (n : Nat) : lanesR n = Txt.join sSp [Str.ofString "lanes", txt (n : Nat)] := by
  show _ = glued sSp [Str.ofString "lanes", txt (n : Nat)]
  rw [StrLaws.glued_eq_join]
  show Str.ofString "lanes " ++ txt (n : Nat) = Str.ofString "lanes" ++ sSp ++ txt (n : Nat)
  congr 1
theorem forkR_join (f : Nat × Nat) : forkR f = Txt.join sSp [txt (f.1 : Nat), txt (f.2 : Nat)] := by
  show _ = glued sSp [txt (f.1 : Nat), txt (f.2 : Nat)]
  rw [StrLaws.glued_eq_join]
  rfl
theorem split_lanes (n : Nat) : Txt.split (lanesR n) sSp = [Str.ofString "lanes", txt (n : Nat)] := by
  rw [lanesR_join]
  refine split_joinC 32 (by simp) fun a ha => ?_
  simp only [List.mem_cons, List.mem_nil_iff, or_false] at ha
  rcases ha with rfl | rfl
  · decide
  · exact txt_no (by decide) (by decide)
theorem split_fork (f : Nat × Nat) : Txt.split (forkR f) sSp = [txt (f.1 : Nat), txt (f.2 : Nat)] := by
  rw [forkR_join]
  refine split_joinC 32 (by simp) fun a ha => ?_
  simp only [List.mem_cons, List.mem_nil_iff, or_false] at ha
  rcases ha with rfl | rfl
  · exact txt_no (by decide) (by decide)
  · exact txt_no (by decide) (by decide)
theorem split_ends (es : List Nat) : Txt.split (endsR es) sSp = Str.ofString "ends" :: es.map fun (e : Nat) => txt (e : Int) := by
  refine split_joinC 32 (by simp) fun a ha => ?_
  rcases List.mem_cons.mp ha with rfl | q
  · decide
  · obtain ⟨e, _, rfl⟩ := List.mem_map.mp q
    exact txt_no (by decide) (by decide)
theorem len_join {sep : Str} {ss : List Str} {B : Nat} (h : ∀ y ∈ ss, y.length ≤ B) : (Txt.join sep ss).length ≤ ss.length * B + ss.length * sep.length := by
  have a := StrLaws.join_length_le sep ss
  rw [← StrLaws.glued_eq_join] at a
  have b := StrLaws.sumLen_le ss h
  exact Nat.le_trans a (by lia)
theorem txt_small {n : Nat} (h : n ≤ 1000) : (txt (n : Nat)).length ≤ 31 := (txt_len (n := (n : Nat)) (Nat.lt_of_le_of_lt (show (n : Int).natAbs ≤ 1000 by lia) (by decide))).2
theorem nat_small {n : Nat} (h : n ≤ 1000) : ((n : Nat) : Int).natAbs < 10 ^ 30 := Nat.lt_of_le_of_lt (show (n : Int).natAbs ≤ 1000 by lia) (by decide)
theorem len_lanes {n : Nat} (h : n ≤ 1000) : (lanesR n).length ≤ 1000 := by
  have := txt_small h
  show (Str.ofString "lanes " ++ txt (n : Nat)).length ≤ _
  rw [Str.length_append]
  have e : (Str.ofString "lanes ").length = 6 := by decide
  lia
theorem len_fork {f : Nat × Nat} (h1 : f.1 ≤ 1000) (h2 : f.2 ≤ 1000) : (forkR f).length ≤ 1000 := by
  have a := txt_small h1
  have b := txt_small h2
  show (txt (f.1 : Nat) ++ Str.ofString " " ++ txt (f.2 : Nat)).length ≤ _
  repeat rw [Str.length_append]
  have e : (Str.ofString " ").length = 1 := by decide
  lia
theorem len_ends {es : List Nat} (hl : es.length ≤ 16) (h : ∀ e ∈ es, e ≤ 1000) : (endsR es).length ≤ 1000 := by
  refine Nat.le_trans (len_join (B := 31) fun y hy => ?_) ?_
  · rcases List.mem_cons.mp hy with rfl | q
    · decide
    · obtain ⟨e, he, rfl⟩ := List.mem_map.mp q
      exact txt_small (h e he)
  · rw [List.length_cons, List.length_map]
    show (es.length + 1) * 31 + (es.length + 1) * 1 ≤ 1000
    lia
end Bn
end
section
set_option maxHeartbeats 4000001
namespace Bn
open PySem PySem.Spec PyProof.Rows Builtin Builtin.Str
def spL (c : Nat) : List Nat → List (List Nat)
  | [] => [[]]
  | x :: r => if x = c then [] :: spL c r else match spL c r with
    | [] => [[x]]
    | h :: t => (x :: h) :: t
theorem spL_ne (c : Nat) : ∀ l, spL c l ≠ []
  | [] => by simp [spL]
  | x :: r => by
    unfold spL
    split
    · simp
    · split <;> simp
def jnL (c : Nat) : List (List Nat) → List Nat
  | [] => []
  | [a] => a
  | a :: b :: r => a ++ c :: jnL c (b :: r)
theorem jn_sp (c : Nat) : ∀ l, jnL c (spL c l) = l
  | [] => rfl
  | x :: r => by
    have ih := jn_sp c r
    have ne := spL_ne c r
    unfold spL
    cases e : spL c r with
    | nil => exact absurd e ne
    | cons h t =>
      rw [e] at ih
      by_cases q : x = c
      · rw [if_pos q]
        show [] ++ c :: jnL c (h :: t) = _
        rw [ih, q]; rfl
      · rw [if_neg q]
        cases t with
        | nil => show x :: h = _; rw [← ih]; rfl
        | cons b t' => show (x :: h) ++ c :: jnL c (b :: t') = _; rw [← ih]; rfl
theorem sp_free (c : Nat) : ∀ l, ∀ a ∈ spL c l, c ∉ a
  | [], a, h => by
    rw [List.mem_singleton.mp h]; simp
  | x :: r, a, h => by
    have ih := sp_free c r
    unfold spL at h
    by_cases q : x = c
    · rw [if_pos q] at h
      rcases (List.mem_cons.1 h) with rfl | h
      · simp
      · exact ih a h
    · rw [if_neg q] at h
      cases e : spL c r with
      | nil => exact absurd e (spL_ne c r)
      | cons g t =>
        rw [e] at h ih
        rcases (List.mem_cons.1 h) with rfl | h
        · intro z
          rcases List.mem_cons.mp z with z | z
          · exact q z.symm
          · exact ih g List.mem_cons_self z
        · exact ih a (List.mem_cons_of_mem _ h)
theorem sp_sub (c : Nat) : ∀ l, ∀ a ∈ spL c l, ∀ x ∈ a, x ∈ l
  | [], a, h, x, hx => by
    rw [List.mem_singleton.mp h] at hx; simp at hx
  | y :: r, a, h, x, hx => by
    have ih := sp_sub c r
    unfold spL at h
    by_cases q : y = c
    · rw [if_pos q] at h
      rcases (List.mem_cons.1 h) with rfl | h
      · simp at hx
      · exact List.mem_cons_of_mem _ (ih a h x hx)
    · rw [if_neg q] at h
      cases e : spL c r with
      | nil => exact absurd e (spL_ne c r)
      | cons g t =>
        rw [e] at h ih
        rcases (List.mem_cons.1 h) with rfl | h
        · rcases List.mem_cons.mp hx with z | z
          · rw [z]; exact List.mem_cons_self
          · exact List.mem_cons_of_mem _ (ih g List.mem_cons_self x z)
        · exact List.mem_cons_of_mem _ (ih a (List.mem_cons_of_mem _ h) x hx)
def ofL (l : List Nat) : Str := ⟨l.toArray⟩
theorem ofL_of (z : Str) : ofL z.cps.toList = z := rfl
def wordsC (c : Nat) (z : Str) : List Str := (spL c z.cps.toList).map ofL
theorem jn_ofL (c : Nat) : ∀ ls : List (List Nat), ls ≠ [] → Str.join ⟨#[c]⟩ (ls.map ofL) = ofL (jnL c ls)
  | [], h => absurd rfl h
  | [a], _ => rfl
  | a :: b :: r, _ => by
    have ih := jn_ofL c (b :: r) (by simp)
    rw [List.map_cons] at ih
    rw [List.map_cons, List.map_cons]
    show ofL a ++ ⟨#[c]⟩ ++ Str.join ⟨#[c]⟩ (ofL b :: r.map ofL) = _
    rw [ih]
    refine Str.ext' ?_
    rw [Str.cps_append, Str.cps_append]
    show a.toArray ++ #[c] ++ (jnL c (b :: r)).toArray = (a ++ c :: jnL c (b :: r)).toArray
    simp
theorem words_join (c : Nat) (z : Str) : Txt.join ⟨#[c]⟩ (wordsC c z) = z := by
  unfold wordsC
  refine (StrLaws.glued_eq_join _ _).trans ?_
  rw [jn_ofL c _ (spL_ne c _), jn_sp, ofL_of]
theorem words_ne (c : Nat) (z : Str) : wordsC c z ≠ [] := fun h => spL_ne c _ (List.map_eq_nil_iff.mp h)
theorem words_free (c : Nat) (z : Str) : ∀ a ∈ wordsC c z, c ∉ a.cps.toList := fun a ha => by
  obtain ⟨l, hl, rfl⟩ := List.mem_map.mp ha
  exact sp_free c _ l hl
theorem words_sub (c : Nat) (z : Str) : ∀ a ∈ wordsC c z, ∀ x ∈ a.cps.toList, x ∈ z.cps.toList := fun a ha => by
  obtain ⟨l, hl, rfl⟩ := List.mem_map.mp ha
  exact sp_sub c _ l hl
theorem split_words (c : Nat) (z : Str) : Txt.split z ⟨#[c]⟩ = wordsC c z := by
  have := split_joinC c (words_ne c z) (words_free c z)
  rwa [words_join] at this
theorem words_of (c : Nat) {ss : List Str} (h : ss ≠ []) (f : ∀ a ∈ ss, c ∉ a.cps.toList) : wordsC c (Txt.join ⟨#[c]⟩ ss) = ss := by
  rw [← split_words, split_joinC c h f]
def figB (c : Nat) : Bool := decide (48 ≤ c) && decide (c ≤ 57)
def figsOf (z : Str) : Str := if z.cps.toList[0]? = some 45 then L2.strFrom z 1 else z
def badW (z : Str) : Bool := !(decide (1 ≤ (figsOf z).length) && decide ((figsOf z).length ≤ 30)) || !(figsOf z).cps.toList.all figB || (decide ((figsOf z).cps.toList[0]? = some 48) && decide (z ≠ ⟨#[48]⟩))
theorem digit_is : ∀ d : Nat, d < 10 → (Nat.digitChar d).toNat = 48 + d := by decide
theorem digs_more {m d : Nat} (hm : 1 ≤ m) (hd : d < 10) : digs (10 * m + d) = digs m ++ [48 + d] := by
  unfold digs
  rw [Nat.toDigits_of_base_le (by decide) (by lia), List.map_append, show (10 * m + d) / 10 = m by lia, show (10 * m + d) % 10 = d by lia]
  show _ ++ [(Nat.digitChar d).toNat] = _
  rw [digit_is d hd]
theorem digs_one {d : Nat} (hd : d < 10) : digs d = [48 + d] := by
  unfold digs
  rw [Nat.toDigits_of_lt_base hd]
  show [(Nat.digitChar d).toNat] = _
  rw [digit_is d hd]
theorem digs_of : ∀ (n : Nat) (ds : List Nat), ds.length = n → 1 ≤ n → ds.all figB = true → ds[0]? ≠ some 48 → ∃ m, 1 ≤ m ∧ m < 10 ^ n ∧ digs m = ds
  | 0, _, _, h, _, _ => absurd h (by decide)
  | 1, ds, hl, _, ha, h0 => by
    obtain ⟨x, rfl⟩ : ∃ x, ds = [x] := by
      cases ds with
      | nil => cases hl
      | cons a r => cases r with
        | nil => exact ⟨a, rfl⟩
        | cons b t => simp at hl
    have hx : figB x = true := by simpa using ha
    unfold figB at hx
    rw [Bool.and_eq_true, decide_eq_true_iff, decide_eq_true_iff] at hx
    have : x ≠ 48 := fun e => h0 (by rw [e]; rfl)
    refine ⟨x - 48, by lia, by lia, ?_⟩
    rw [digs_one (by lia), show 48 + (x - 48) = x by lia]
  | n + 2, ds, hl, _, ha, h0 => by
    have ne : ds ≠ [] := fun e => by rw [e] at hl; cases hl
    have e := List.dropLast_concat_getLast ne
    have hd : ds.dropLast.length = n + 1 := by rw [List.length_dropLast, hl]; rfl
    have hl' : figB (ds.getLast ne) = true := List.all_eq_true.mp ha _ (List.getLast_mem ne)
    obtain ⟨m, m1, m2, m3⟩ := digs_of (n + 1) ds.dropLast hd (by lia) (List.all_eq_true.mpr fun x hx => List.all_eq_true.mp ha x (List.dropLast_subset _ hx)) (by
      rw [← e, List.getElem?_append_left (by lia)] at h0; exact h0)
    unfold figB at hl'
    rw [Bool.and_eq_true, decide_eq_true_iff, decide_eq_true_iff] at hl'
    refine ⟨10 * m + (ds.getLast ne - 48), by lia, ?_, ?_⟩
    · rw [show (10 : Nat) ^ (n + 2) = 10 ^ (n + 1) * 10 from Nat.pow_succ ..]; lia
    · rw [digs_more m1 (by lia), m3, show 48 + (ds.getLast ne - 48) = ds.getLast ne by lia]
      exact e
theorem str_eq {a b : Str} (h : a.cps.toList = b.cps.toList) : a = b := by
  rw [← ofL_of a, h, ofL_of]
theorem word_num {z : Str} (h : badW z = false) : ∃ n : Int, n.natAbs < 10 ^ 30 ∧ z = txt n := by
  unfold badW at h
  rw [Bool.or_eq_false_iff, Bool.or_eq_false_iff, Bool.not_eq_false', Bool.not_eq_false', Bool.and_eq_true, decide_eq_true_iff, decide_eq_true_iff] at h
  obtain ⟨⟨⟨l1, l30⟩, al⟩, hz⟩ := h
  have le := str_len (figsOf z)
  by_cases n0 : (figsOf z).cps.toList[0]? = some 48
  · rw [decide_eq_true n0, Bool.true_and, decide_eq_false_iff_not] at hz
    have e : z = ⟨#[48]⟩ := Classical.not_not.mp hz
    exact ⟨0, by decide, by rw [e, txt_zero]⟩
  · obtain ⟨m, m1, m2, m3⟩ := digs_of _ (figsOf z).cps.toList rfl (by lia) al n0
    have mb : m < 10 ^ 30 := Nat.lt_of_lt_of_le m2 (Nat.pow_le_pow_right (by decide) (by lia))
    by_cases s : z.cps.toList[0]? = some 45
    · refine ⟨-(m : Nat), by lia, str_eq ?_⟩
      rw [txt_neg m m1, m3]
      unfold figsOf
      rw [if_pos s]
      show _ = 45 :: z.cps.toList.drop 1
      cases e : z.cps.toList with
      | nil => rw [e] at s; cases s
      | cons a r => rw [e] at s; obtain rfl := Option.some.inj s; rfl
    · refine ⟨(m : Nat), by lia, str_eq ?_⟩
      rw [txt_pos, m3]
      unfold figsOf
      rw [if_neg s]
theorem txt_inj {a b : Int} (h : txt a = txt b) (ha : a.natAbs < 10 ^ 30) (hb : b.natAbs < 10 ^ 30) : a = b :=
  Option.some.inj ((txt_reads ha).symm.trans ((congrArg _ h).trans (txt_reads hb)))
def numO (z : Str) : Option Int := if badW z then none else intText? z
theorem numO_bad {z : Str} (h : badW z = true) : numO z = none := by unfold numO; rw [if_pos h]
theorem numO_some {z : Str} (h : badW z = false) : ∃ n : Int, numO z = some n ∧ n.natAbs < 10 ^ 30 ∧ z = txt n := by
  obtain ⟨n, hn, e⟩ := word_num h
  refine ⟨n, ?_, hn, e⟩
  unfold numO
  rw [if_neg (by rw [h]; decide), e, txt_reads hn]
theorem numO_is {z : Str} {n : Int} (h : numO z = some n) : n.natAbs < 10 ^ 30 ∧ z = txt n := by
  cases b : badW z with
  | true => rw [numO_bad b] at h; cases h
  | false =>
    obtain ⟨m, e1, e2, e3⟩ := numO_some b
    obtain rfl := Option.some.inj (h.symm.trans e1)
    exact ⟨e2, e3⟩
theorem txt_good {n : Int} (h : n.natAbs < 10 ^ 30) : badW (txt n) = false := by
  have fl := figs_list n
  have fe : figsOf (txt n) = figs n := by
    unfold figsOf figs
    rcases txt_cases n with ⟨p, e⟩ | ⟨p, e⟩
    · have g := digs_all n.natAbs
      have ge := digs_ge n.natAbs
      rw [e, if_neg (by lia : ¬ n < 0), if_neg]
      intro q
      have := g 45 (List.mem_of_getElem? q)
      lia
    · rw [e, if_pos p]
      exact if_pos rfl
  have g1 := digs_ge n.natAbs
  have g2 := digs_le (k := 30) (by decide) h
  have sl := str_len (figs n)
  rw [fl] at sl
  unfold badW
  rw [fe, fl, decide_eq_true (show 1 ≤ (figs n).length by lia), decide_eq_true (show (figs n).length ≤ 30 by lia)]
  have al : (digs n.natAbs).all figB = true := List.all_eq_true.mpr fun c hc => by
    have := digs_all n.natAbs c hc
    unfold figB
    rw [decide_eq_true this.1, decide_eq_true this.2]; rfl
  rw [al]
  by_cases z : n = 0
  · subst z; rw [txt_zero]; decide
  · rw [decide_eq_false (fun q => ?_)]; rfl
    cases e : digs n.natAbs with
    | nil => rw [e] at q; cases q
    | cons a r =>
      rw [e] at q
      obtain rfl := Option.some.inj q
      exact digs_head (by lia) r e
theorem numO_txt {n : Int} (h : n.natAbs < 10 ^ 30) : numO (txt n) = some n := by
  obtain ⟨m, e1, e2, e3⟩ := numO_some (txt_good h)
  rw [e1, txt_inj e3 h e2]
end Bn
end
section
set_option maxHeartbeats 4000001
namespace Bn
open PySem L2 Own
def Deep (K : PySem.W.Frag) (H : Hp) : Nat → V → Prop
  | 0, x => AnyT K H x
  | n + 1, x => AnyT K H x ∧ ∀ xs, rowOf H x = some xs → xs.length ≤ 1000 ∧ ∀ y ∈ xs, Deep K H n y
theorem Deep.any {K : PySem.W.Frag} {H : Hp} : ∀ {n : Nat} {x : V}, Deep K H n x → AnyT K H x
  | 0, _, h => h
  | _ + 1, _, h => h.1
theorem Deep.less {K : PySem.W.Frag} {H : Hp} : ∀ {n : Nat} {x : V}, Deep K H (n + 1) x → Deep K H n x
  | 0, _, h => h.1
  | _ + 1, _, h => ⟨h.1, fun xs e => ⟨(h.2 xs e).1, fun y hy => ((h.2 xs e).2 y hy).less⟩⟩
theorem row_same {K : PySem.W.Frag} {H H' : Hp} {x : V} (s : Same H H') (a : AnyT K H x) : rowOf H' x = rowOf H x := by
  cases z : rowOf H x with
  | some xs =>
    obtain ⟨b, rfl, hb⟩ := rowOf_some z
    exact rowOf_tup (s _ _ hb)
  | none =>
    cases y : rowOf H' x with
    | none => rfl
    | some ys =>
      obtain ⟨b, rfl, hb⟩ := rowOf_some y
      obtain ⟨T, ty, _⟩ := a
      cases ty with
      | tup h => rw [rowOf_tup h] at z; cases z
      | lst h => rw [s _ _ h] at hb; cases hb
      | frz h => rw [s _ _ h] at hb; cases hb
      | dK h => rw [s _ _ h] at hb; cases hb
      | dT h => rw [s _ _ h] at hb; cases hb
      | ins h => rw [s _ _ h] at hb; cases hb
theorem perm_in {α : Type} [DecidableEq α] : ∀ {xs ys : List α}, xs.Nodup → (∀ x ∈ xs, x ∈ ys) → ys.length = xs.length → ys.Perm xs
  | [], ys, _, _, l => by rw [List.length_eq_zero_iff.mp l]
  | a :: t, ys, nd, sub, l => by
    have am := sub a List.mem_cons_self
    obtain ⟨na, nt⟩ := List.nodup_cons.mp nd
    refine (List.perm_cons_erase am).trans (.cons a (perm_in nt (fun x hx => ?_) ?_))
    · have ne : x ≠ a := by rintro rfl; exact na hx
      exact (List.mem_erase_of_ne ne).mpr (sub x (List.mem_cons_of_mem _ hx))
    · rw [List.length_erase_of_mem am, l]; rfl
theorem full_iff {ns ms : List Int} {b : Nat} (l : ns.length = b) (p : ms.Perm ns) (s : ms.Pairwise (· ≤ ·)) : ms = (List.range b).map (fun (i : Nat) => (i : Int)) ↔ ∀ i : Nat, i < b → (i : Int) ∈ ns := by
  constructor
  · rintro rfl i hi
    exact p.mem_iff.mp (List.mem_map.mpr ⟨i, List.mem_range.mpr hi, rfl⟩)
  · intro h
    have nd : ((List.range b).map (fun (i : Nat) => (i : Int))).Nodup := by
      rw [List.nodup_iff_pairwise_ne, List.pairwise_map]
      exact (List.nodup_iff_pairwise_ne.mp List.nodup_range).imp fun {x y} ne e => ne (by lia)
    refine List.Perm.eq_of_pairwise (le := (· ≤ ·)) (fun a c _ _ h1 h2 => Int.le_antisymm h1 h2) s ?_ (perm_in nd (fun x hx => ?_) ?_)
    · rw [List.pairwise_map]
      exact List.pairwise_lt_range.imp fun {x y} z => by lia
    · obtain ⟨i, hi, rfl⟩ := List.mem_map.mp hx
      exact p.mem_iff.mpr (h i (List.mem_range.mp hi))
    · rw [p.length_eq, l, List.length_map, List.length_range]
def belowsV (H : Hp) (many b : Int) (x : V) : Bool := match rowOf H x with
  | some xs => decide ((xs.length : Int) = many) && xs.all (belowV b)
  | none => false
def forkV (H : Hp) (b : Int) (x : V) : Bool := match rowOf H x with
  | some [y, z] => belowV b y && (belowV b z && !decide (y = z))
  | _ => false
def forksV (H : Hp) (b : Int) (x : V) : Bool := match rowOf H x with
  | some xs => decide ((xs.length : Int) ≤ 128) && xs.all (forkV H b)
  | none => false
def lanesV (H : Hp) (b : Int) (x : V) : Bool := match rowOf H x with
  | some xs => (decide ((xs.length : Int) = b) && xs.all (belowV b)) && (List.range b.toNat).all (fun (i : Nat) => inV (V.int i) xs)
  | none => false
def netV (H : Hp) (x : V) : Bool := match rowOf H x with
  | some [l, f, e] => match l with
    | .int i => (decide (1 ≤ i) && decide (i ≤ 16)) && (forksV H i f && lanesV H i e)
    | _ => false
  | _ => false
end Bn
end
section
set_option maxHeartbeats 4000001
namespace Bn
open PySem PySem.Spec PyProof.Rows Builtin Builtin.Str
abbrev wsR (r : Str) : List Str := wordsC 32 r
def lanesOf (r : Str) : Option Nat := match wsR r with
  | [a, b] => if a = Str.ofString "lanes" then match numO b with
    | some n => if 1 ≤ n ∧ n ≤ 16 then some n.toNat else none
    | none => none
    else none
  | _ => none
def belowO (n : Nat) : Option Int → Bool
  | some i => decide (0 ≤ i) && decide (i < n)
  | none => false
def forkO (n : Nat) : List (Option Int) → Option (Nat × Nat)
  | [some a, some b] => if belowO n (some a) && (belowO n (some b) && !decide (a = b)) then some (a.toNat, b.toNat) else none
  | _ => none
def forkOf (n : Nat) (r : Str) : Option (Nat × Nat) := forkO n ((wsR r).map numO)
def allL (n : Nat) (os : List (Option Int)) : Bool := (decide (os.length = n) && os.all (belowO n)) && (List.range n).all fun (i : Nat) => os.contains (some (i : Int))
def endsOf (n : Nat) (r : Str) : Option (List Nat) := match wsR r with
  | a :: t => if a = Str.ofString "ends" ∧ allL n (t.map numO) = true then some ((t.map numO).map fun o => (o.getD 0).toNat) else none
  | [] => none
def goR (n : Nat) : List (Nat × Nat) → Nat → List Str → Nat ⊕ Nt
  | _, k, [] => .inl k
  | acc, k, r :: rs => match endsOf n r with
    | some es => if rs = [] then .inr ⟨n, acc, es⟩ else .inl (k + 1)
    | none => match forkOf n r with
      | some f => if acc.length < 128 then goR n (acc ++ [f]) (k + 1) rs else .inl k
      | none => .inl k
def rdR : List Str → Nat ⊕ Nt
  | [] => .inl 0
  | r :: rs => match lanesOf r with
    | none => .inl 0
    | some n => goR n [] 1 rs
def preR (n : Nat) : List Str → List (Nat × Nat)
  | [] => []
  | r :: rs => match forkOf n r with
    | some f => f :: preR n rs
    | none => []
theorem ends_bad : numO (Str.ofString "ends") = none := numO_bad (by decide)
theorem ends_no_fork {n : Nat} {r : Str} {es : List Nat} (h : endsOf n r = some es) : forkOf n r = none := by
  unfold endsOf at h
  unfold forkOf
  cases e : wsR r with
  | nil => rw [e] at h; cases h
  | cons a t =>
    rw [e] at h
    dsimp only at h
    split at h
    · rename_i q
      rw [List.map_cons, q.1, ends_bad]; rfl
    · cases h
def tellR (n : Nat) (acc : List (Nat × Nat)) (k : Nat) (rs : List Str) (fs : List (Nat × Nat)) : Nat ⊕ Nt := match rs[fs.length]? with
  | none => .inl (k + fs.length)
  | some r => match endsOf n r with
    | none => .inl (k + fs.length)
    | some es => if fs.length + 1 < rs.length then .inl (k + fs.length + 1) else .inr ⟨n, acc ++ fs, es⟩
theorem goR_pre (n : Nat) : ∀ (rs : List Str) (acc : List (Nat × Nat)) (k : Nat), goR n acc k rs = tellR n acc k rs (preR n (rs.take (128 - acc.length)))
  | [], acc, k => by
    rw [List.take_nil]; rfl
  | r :: rs, acc, k => by
    unfold goR
    cases e : endsOf n r with
    | some es =>
      have f0 := ends_no_fork e
      have p0 : preR n ((r :: rs).take (128 - acc.length)) = [] := by
        cases 128 - acc.length with
        | zero => rfl
        | succ m => rw [List.take_succ_cons]; unfold preR; rw [f0]
      rw [p0]
      unfold tellR
      show (if rs = [] then _ else _) = _
      rw [show (r :: rs)[([] : List (Nat × Nat)).length]? = some r from rfl]
      dsimp only
      rw [e]
      dsimp only
      rw [List.append_nil]
      cases rs with
      | nil => rfl
      | cons b t => rw [if_neg (by simp), if_pos (by simp)]; rfl
    | none =>
      cases f : forkOf n r with
      | some g =>
        by_cases a : acc.length < 128
        · have ih := goR_pre n rs (acc ++ [g]) (k + 1)
          dsimp only
          rw [if_pos a, ih]
          obtain ⟨m, hm⟩ : ∃ m, 128 - acc.length = m + 1 := ⟨127 - acc.length, by lia⟩
          rw [show 128 - (acc ++ [g]).length = m by rw [List.length_append, List.length_singleton]; lia, hm, List.take_succ_cons]
          have pe : preR n (r :: rs.take m) = g :: preR n (rs.take m) := by
            rw [preR, f]
          rw [pe]
          unfold tellR
          rw [List.length_cons, List.getElem?_cons_succ, List.length_cons]
          cases rs[(preR n (rs.take m)).length]? with
          | none => dsimp only; rw [show k + 1 + (preR n (rs.take m)).length = k + ((preR n (rs.take m)).length + 1) by lia]
          | some y =>
            dsimp only
            cases endsOf n y with
            | none => dsimp only; rw [show k + 1 + (preR n (rs.take m)).length = k + ((preR n (rs.take m)).length + 1) by lia]
            | some es =>
              dsimp only
              rw [List.append_assoc]
              by_cases q : (preR n (rs.take m)).length + 1 < rs.length
              · rw [if_pos q, if_pos (by lia), show k + 1 + (preR n (rs.take m)).length + 1 = k + ((preR n (rs.take m)).length + 1) + 1 by lia]
              · rw [if_neg q, if_neg (by lia)]; rfl
        · dsimp only
          rw [if_neg a, show 128 - acc.length = 0 by lia, List.take_zero]
          unfold tellR preR
          rw [show (r :: rs)[([] : List (Nat × Nat)).length]? = some r from rfl]
          dsimp only
          rw [e]; rfl
      | none =>
        have p0 : preR n ((r :: rs).take (128 - acc.length)) = [] := by
          cases 128 - acc.length with
          | zero => rfl
          | succ m => rw [List.take_succ_cons]; unfold preR; rw [f]
        rw [p0]
        unfold tellR
        rw [show (r :: rs)[([] : List (Nat × Nat)).length]? = some r from rfl]
        dsimp only
        rw [e]; rfl
theorem rdR_eq {r : Str} {rs : List Str} {n : Nat} (h : lanesOf r = some n) : rdR (r :: rs) = tellR n [] 1 rs (preR n (rs.take 128)) := by
  have e : rdR (r :: rs) = goR n [] 1 rs := by rw [rdR, h]
  exact e.trans (goR_pre n rs [] 1)
theorem preR_len (n : Nat) : ∀ rs : List Str, (preR n rs).length ≤ rs.length
  | [] => Nat.le_refl _
  | r :: rs => by
    have := preR_len n rs
    unfold preR
    split
    · rw [List.length_cons, List.length_cons]; lia
    · exact Nat.zero_le _
theorem lanesOf_ok {r : Str} {n : Nat} (h : lanesOf r = some n) : 1 ≤ n ∧ n ≤ 16 := by
  unfold lanesOf at h
  split at h
  · split at h
    · split at h
      · split at h
        · obtain rfl := Option.some.inj h; lia
        · cases h
      · cases h
    · cases h
  · cases h
theorem forkO_ok {n : Nat} {os : List (Option Int)} {f : Nat × Nat} (h : forkO n os = some f) : os = [some (f.1 : Int), some (f.2 : Int)] ∧ f.1 < n ∧ f.2 < n ∧ f.1 ≠ f.2 := by
  unfold forkO at h
  split at h
  · rename_i a b
    split at h
    · rename_i q
      obtain rfl := Option.some.inj h
      unfold belowO at q
      simp only [Bool.and_eq_true, decide_eq_true_eq, Bool.not_eq_true', decide_eq_false_iff_not] at q
      obtain ⟨⟨a0, a1⟩, ⟨b0, b1⟩, ne⟩ := q
      have ea : ((a.toNat : Nat) : Int) = a := Int.toNat_of_nonneg a0
      have eb : ((b.toNat : Nat) : Int) = b := Int.toNat_of_nonneg b0
      dsimp only
      rw [ea, eb]
      exact ⟨rfl, by lia, by lia, by lia⟩
    · cases h
  · cases h
theorem preR_ok (n : Nat) : ∀ rs : List Str, ∀ f ∈ preR n rs, f.1 < n ∧ f.2 < n ∧ f.1 ≠ f.2
  | [], f, h => by cases h
  | r :: rs, f, h => by
    unfold preR at h
    split at h
    · rename_i g e
      rcases (List.mem_cons.1 h) with rfl | h
      · exact (forkO_ok e).2
      · exact preR_ok n rs f h
    · cases h
theorem preR_get (n : Nat) : ∀ (rs : List Str) (j : Nat) (r : Str), rs[j]? = some r → j ≤ (preR n rs).length → (preR n rs)[j]? = forkOf n r ∧ (forkOf n r = none → j = (preR n rs).length)
  | [], j, r, h, _ => by cases h
  | y :: rs, 0, r, h, _ => by
    obtain rfl := Option.some.inj h
    unfold preR
    cases e : forkOf n y with
    | some g => exact ⟨rfl, fun z => by cases z⟩
    | none => exact ⟨rfl, fun _ => rfl⟩
  | y :: rs, j + 1, r, h, hj => by
    unfold preR at hj ⊢
    cases e : forkOf n y with
    | some g =>
      rw [e] at hj
      have := preR_get n rs j r (by simpa using h) (by simpa using hj)
      refine ⟨by simpa using this.1, fun z => ?_⟩
      have := this.2 z
      simp; lia
    | none => rw [e] at hj; simp at hj
theorem allL_perm {n : Nat} {os : List (Option Int)} (h : allL n os = true) : os = (os.map fun o => (o.getD 0).toNat).map (fun (e : Nat) => some (e : Int)) ∧ (os.map fun o => (o.getD 0).toNat).Perm (List.range n) := by
  unfold allL at h
  rw [Bool.and_eq_true, Bool.and_eq_true, decide_eq_true_iff] at h
  obtain ⟨⟨hl, hb⟩, hc⟩ := h
  have val : ∀ o ∈ os, ∃ i : Nat, o = some (i : Int) ∧ i < n := fun o ho => by
    have := List.all_eq_true.mp hb o ho
    cases o with
    | none => cases this
    | some i =>
      unfold belowO at this
      rw [Bool.and_eq_true, decide_eq_true_iff, decide_eq_true_iff] at this
      exact ⟨i.toNat, by rw [Int.toNat_of_nonneg this.1], by lia⟩
  have e1 : os = (os.map fun o => (o.getD 0).toNat).map (fun (e : Nat) => some (e : Int)) := by
    rw [List.map_map]
    refine ((List.map_id os).symm.trans (List.map_congr_left fun o ho => ?_))
    obtain ⟨i, rfl, _⟩ := val o ho
    rfl
  refine ⟨e1, ?_⟩
  generalize hes : (os.map fun o => (o.getD 0).toNat) = es at e1 ⊢
  have el : es.length = n := by rw [← hes, List.length_map, hl]
  have sub : ∀ i ∈ List.range n, i ∈ es := fun i hi => by
    have := List.all_eq_true.mp hc i hi
    rw [List.contains_iff_mem] at this
    rw [e1] at this
    obtain ⟨j, hj, z⟩ := List.mem_map.mp this
    have : (j : Int) = (i : Int) := Option.some.inj z
    rw [show i = j by lia]; exact hj
  exact perm_in List.nodup_range sub (by rw [List.length_range]; lia)
theorem endsOf_perm {n : Nat} {r : Str} {es : List Nat} (h : endsOf n r = some es) : es.Perm (List.range n) ∧ wsR r = Str.ofString "ends" :: es.map fun (e : Nat) => txt (e : Int) := by
  unfold endsOf at h
  cases e : wsR r with
  | nil => rw [e] at h; cases h
  | cons a t =>
    rw [e] at h
    dsimp only at h
    split at h
    · rename_i q
      obtain ⟨q1, q2⟩ := q
      obtain rfl := Option.some.inj h
      obtain ⟨p1, p2⟩ := allL_perm q2
      refine ⟨p2, ?_⟩
      rw [q1]
      congr 1
      rw [List.map_map]; rw [List.map_map]
      refine ((List.map_id t).symm.trans (List.map_congr_left fun z hz => ?_))
      have hm : numO z ∈ t.map numO := List.mem_map.mpr ⟨z, hz, rfl⟩
      rw [p1] at hm
      obtain ⟨i, hi, ez⟩ := List.mem_map.mp hm
      obtain ⟨_, e2⟩ := numO_is ez.symm
      show z = txt ((((numO z).getD 0).toNat : Nat) : Int)
      rw [← ez]
      exact e2
    · cases h
end Bn
namespace Bn
open PySem PySem.Spec PyProof.Rows L2 Own
def RB (b : Nat) (r : Str) : Prop := (∀ c ∈ r.cps.toList, c < 128 ∧ c ≠ 10) ∧ (wsR r).length ≤ 17 + b ∧ ∀ a ∈ wsR r, a.length ≤ 33 + b
def RowsB (b : Nat) (rows : List Str) : Prop := rows ≠ [] ∧ rows.length ≤ 140 + b ∧ ∀ r ∈ rows, RB b r
theorem RB.mono {b c : Nat} {r : Str} (h : RB b r) (l : b ≤ c) : RB c r := ⟨h.1, by have := h.2.1; lia, fun a ha => by have := h.2.2 a ha; lia⟩
theorem RowsB.mono {b c : Nat} {rs : List Str} (h : RowsB b rs) (l : b ≤ c) : RowsB c rs := ⟨h.1, by have := h.2.1; lia, fun a ha => (h.2.2 a ha).mono l⟩
theorem RB.len {b : Nat} {r : Str} (h : RB b r) (l : b ≤ 10) : r.length ≤ 1200 := by
  have a := len_join (sep := ⟨#[32]⟩) (ss := wsR r) (B := 43) fun y hy => by have := h.2.2 y hy; lia
  rw [words_join 32 r] at a
  have e1 : (⟨#[32]⟩ : Str).length = 1 := rfl
  rw [e1] at a
  have := h.2.1
  lia
theorem RB.asc {b : Nat} {r : Str} (h : RB b r) : ∀ a ∈ wsR r, ∀ c ∈ a.cps.toList, c < 128 := fun a ha c hc => (h.1 c (words_sub 32 r a ha c hc)).1
theorem RowsB.free {b : Nat} {rs : List Str} (h : RowsB b rs) : ∀ r ∈ rs, 10 ∉ r.cps.toList := fun r hr q => (((h.2.2 r hr).1 10 q).2) rfl
theorem RowsB.split {b : Nat} {rs : List Str} (h : RowsB b rs) : Txt.split (Txt.join sNl rs) sNl = rs := split_joinC 10 h.1 h.free
theorem RowsB.len {b : Nat} {rs : List Str} (h : RowsB b rs) (l : b ≤ 10) : (Txt.join sNl rs).length + 2 ≤ sizeLine := by
  have a := len_join (sep := sNl) (ss := rs) (B := 1200) fun y hy => (h.2.2 y hy).len l
  have e1 : sNl.length = 1 := rfl
  rw [e1] at a
  have := h.2.1
  rw [sizeLine_eq]
  lia
end Bn
end
section
set_option maxHeartbeats 4000001
namespace K77
open PySem L2 Own Bn
theorem fig_is {c : Nat} : (!(Builtin.Str.occurrences (Str.ofString "0123456789") ⟨#[c]⟩ 0 (Str.ofString "0123456789").length 1).isEmpty) = figB c := by
  rw [StrLaws.found_one]
  have e : (Str.ofString "0123456789").cps.toList = [48, 49, 50, 51, 52, 53, 54, 55, 56, 57] := by decide
  unfold figB
  rw [e, Bool.eq_iff_iff, decide_eq_true_iff, Bool.and_eq_true, decide_eq_true_iff, decide_eq_true_iff]
  simp only [List.mem_cons, List.mem_nil_iff, or_false]
  have all : ∀ d : Nat, d < 10 → 48 + d = 48 ∨ 48 + d = 49 ∨ 48 + d = 50 ∨ 48 + d = 51 ∨ 48 + d = 52 ∨ 48 + d = 53 ∨ 48 + d = 54 ∨ 48 + d = 55 ∨ 48 + d = 56 ∨ 48 + d = 57 := by decide
  refine ⟨fun h => ?_, fun h => ?_⟩
  · rcases h with rfl | rfl | rfl | rfl | rfl | rfl | rfl | rfl | rfl | rfl <;> decide
  · obtain ⟨d, rfl⟩ : ∃ d, c = 48 + d := ⟨c - 48, by lia⟩
    exact all d (by lia)
theorem take_len (z : Str) : z.cps.toList.take z.length = z.cps.toList := List.take_of_length_le (by rw [Array.length_toList]; exact Nat.le_refl _)
theorem all_id (l : List Nat) : (l.map figB).all id = l.all figB := by rw [List.all_map]; rfl
def AscW (z : Str) : Prop := (∀ c ∈ z.cps.toList, c < 128) ∧ z.length ≤ 1000
def spNumZ : Sp := fun vs H Q _ => ∃ z : Str, vs = [.str z] ∧ AscW z ∧ ∀ H', Same H H' → Q (valO (numO z)) H'
def spNumsZ : Sp := fun vs H Q _ => ∃ (l : Addr) (zs : List Str), vs = [.ref l] ∧ H l = some (.lst (zs.map V.str)) ∧ zs.length ≤ 1000 ∧ (∀ z ∈ zs, AscW z) ∧ ∀ p H', Same H H' → H' p = some (.tup ((zs.map numO).map valO)) → Q (.ref p) H'
theorem figs_step {σ : St} {H : Hp} {KK : VK} {z : Str} (zs : z.length ≤ sizeLine) (hv : ∀ Q : VK, Q (.str z) H → tVar 0 σ H Q) (k : KK (V.str (figsOf z)) H) :
    if decide (z.cps.toList[0]? = some 45) = true then tSl (fun x lo hi H Q => ∃ (z : Str) (k : Nat), x = .str z ∧ lo = some ((k : Nat) : Int) ∧ hi = none ∧ k ≤ z.length ∧ z.length ≤ sizeLine ∧ Q (.str (strFrom z k)) H) (tVar 0) (tPart (tC (V.int 1))) tNoPart σ H KK else tVar 0 σ H KK := by
  by_cases h : z.cps.toList[0]? = some 45
  · rw [decide_eq_true h]
    have l1 : 1 ≤ z.length := by
      obtain ⟨q, _⟩ := List.getElem?_eq_some_iff.mp h
      rw [str_len] at q; exact q
    have e : figsOf z = strFrom z 1 := by unfold figsOf; rw [if_pos h]
    rw [e] at k
    exact iteT (hv _ ⟨_, rfl, z, 1, rfl, rfl, rfl, l1, zs, k⟩)
  · rw [decide_eq_false h]
    have e : figsOf z = z := by unfold figsOf; rw [if_neg h]
    rw [e] at k
    exact iteF (hv _ k)
theorem figs_le (z : Str) : (figsOf z).length ≤ z.length ∧ ∀ c ∈ (figsOf z).cps.toList, c ∈ z.cps.toList := by
  unfold figsOf
  split
  · have fl : (strFrom z 1).cps.toList = z.cps.toList.drop 1 := rfl
    refine ⟨?_, fun c hc => List.mem_of_mem_drop (fl ▸ hc)⟩
    rw [← str_len, fl, List.length_drop, str_len]; lia
  · exact ⟨Nat.le_refl _, fun c hc => hc⟩
section
variable {P : Program} {w : World} {K : PySem.W.Frag} {mg : Str → Option Value} {base : Heap}
theorem ok_numz {f : Addr} {fd : FuncData} {tk tk2 : Tok} (F : Fun K "number_in" "number_in" sNumIn f fd) (G : Mgs mg) (hM : mg "MOST_FIGURES" = some (.int 30 tk)) (hF : mg "FIGURES" = some (.str (Str.ofString "0123456789") tk2)) : FnOk P w K mg base CX0 1 f fd ["word"] spNumZ := by
  refine F.ok scNi (fun vs H Q E h => ?_) (fun cdv A outer s H vs Q E hr h => ?_)
  · obtain ⟨z, rfl, _⟩ := h
    rfl
  obtain ⟨z, rfl, ⟨asc, zl⟩, k⟩ := h
  refine ⟨_, (@pss_cons _ _ _ _ _ (@ps_set _ _ 1 _ _ _ _ scNi.nd rfl (Or.inl rfl) (@pe_ifExp _ _ _ _ _ _ _ _ (@pt_val _ _ _ (@pe_bm _ _ _ _ _ _ _ _ _ _ _ _ PySem.F.plainAttrs_str PySem.F.slot_str_startswith PySem.F.type_str_startswith mt_starts (@pv _ 0 _ _ (by rfl) (by first | exact Or.inl rfl | exact Or.inr (Or.inl rfl) | exact Or.inr (Or.inr rfl)) (by decide) (by decide)) (@pa_cons _ _ _ _ _ pe_str pa_nil (by rfl)) (by rfl) (by rfl) (by rfl) (by rfl) (by rfl)) (by intro _; rfl)) (@pe_slice _ _ _ _ _ _ _ _ _ _ sl_strFrom (@pv _ 0 _ _ (by rfl) (by first | exact Or.inl rfl | exact Or.inr (Or.inl rfl) | exact Or.inr (Or.inr rfl)) (by decide) (by decide)) (@po_some _ _ _ pe_int) po_none) (@pv _ 0 _ _ (by rfl) (by first | exact Or.inl rfl | exact Or.inr (Or.inl rfl) | exact Or.inr (Or.inr rfl)) (by decide) (by decide))) (by rfl) (by first | exact .inl rfl | exact .inr rfl | assumption)) (@pss_cons _ _ _ _ _ (@ps_if _ _ _ _ _ _ _ _ (PW.pt (@pw_or _ _ _ _ _ _ _ (@pt_not _ _ _ _ (@pt_chain _ _ _ _ _ _ _ _ _ _ _ _ op_le op_le pe_int (@pe_callB _ _ _ _ _ _ _ _ _ call_len_str (by rfl) G.len PySem.boot_len (@pa_cons _ _ _ _ _ (@pv _ 1 _ _ (by rfl) (by first | exact Or.inl rfl | exact Or.inr (Or.inl rfl) | exact Or.inr (Or.inr rfl)) (by decide) (by decide)) pa_nil (by rfl)) (by decide) (by decide) (by rfl) (by rfl)) (@pe_glob _ _ (.int 30) _ _ (by rfl) @hM ⟨_, rfl⟩ (by decide)) (by with_unfolding_all rfl))) (@pw_or1 _ _ _ _ (@pt_not _ _ _ _ (@pt_val _ _ _ (@pe_callB _ _ _ _ _ _ _ _ _ (call_allB rfl true) (by rfl) G.all (by rfl) (@pa_cons _ _ _ _ _ (@pe_lc _ _ _ _ none _ _ _ _ _ _ ["sign"] [none] rfl (@pi_str _ _ _ _ (@pv _ 1 _ _ (by rfl) (by first | exact Or.inl rfl | exact Or.inr (Or.inl rfl) | exact Or.inr (Or.inr rfl)) (by decide) (by decide))) (CapOk.of (by kernel_rfl)) (fun _ _ _ _ _ => (@pg_name _ _ 0 _ (show (["sign"] : List Str).Nodup from by decide +kernel) rfl (Or.inl rfl) (Or.inr rfl))) (fun _ _ _ _ _ => pt_none) (fun _ _ _ _ _ => (@pe_cmpR _ _ _ _ _ _ _ _ op_in_str (@pv _ 0 _ _ (by rfl) (by first | exact Or.inl rfl | exact Or.inr (Or.inl rfl) | exact Or.inr (Or.inr rfl)) (by decide) (by decide)) (@pe_glob _ _ (.str (Str.ofString "0123456789")) _ _ (by rfl) @hF ⟨_, rfl⟩ (by decide)) (by rfl))) (by intro _; rfl)) pa_nil (by rfl)) (by decide) (by decide) (by rfl) (by rfl)) (by intro _; rfl)))))) (@pss_one _ _ _ (@ps_ret _ _ _ _ pe_non)) pss_nil) (@pss_cons _ _ _ _ _ (@ps_if _ _ _ _ _ _ _ _ (PW.pt (@pw_and _ _ _ _ _ _ _ (@pt_val _ _ _ (@pe_bm _ _ _ _ _ _ _ _ _ _ _ _ PySem.F.plainAttrs_str PySem.F.slot_str_startswith PySem.F.type_str_startswith mt_starts (@pv _ 1 _ _ (by rfl) (by first | exact Or.inl rfl | exact Or.inr (Or.inl rfl) | exact Or.inr (Or.inr rfl)) (by decide) (by decide)) (@pa_cons _ _ _ _ _ pe_str pa_nil (by rfl)) (by rfl) (by rfl) (by rfl) (by rfl) (by rfl)) (by intro _; rfl)) (@pw_and1 _ _ _ _ (@pt_cmpR _ _ _ _ _ _ _ _ op_ne (@pv _ 0 _ _ (by rfl) (by first | exact Or.inl rfl | exact Or.inr (Or.inl rfl) | exact Or.inr (Or.inr rfl)) (by decide) (by decide)) pe_str (nomark _))))) (@pss_one _ _ _ (@ps_ret _ _ _ _ pe_non)) pss_nil) (@pss_one _ _ _ (@ps_ret _ _ _ _ (@pe_callTy _ _ _ _ _ _ _ _ _ call_intText (by rfl) G.int (by rfl) (@pa_cons _ _ _ _ _ (@pv _ 0 _ _ (by rfl) (by first | exact Or.inl rfl | exact Or.inr (Or.inl rfl) | exact Or.inr (Or.inr rfl)) (by decide) (by decide)) pa_nil (by rfl)) (by decide) (by decide) (by rfl) (by rfl))))))), ?_⟩
  have zs : z.length ≤ sizeLine := by rw [sizeLine_eq]; lia
  refine ⟨_, rfl, rfl, _, _, rfl, rfl, _, rfl, ?_⟩
  rw [s_minus, starts_one]
  refine figs_step zs (fun Q q => ⟨_, rfl, q⟩) ?_
  obtain ⟨yl, ya⟩ := figs_le z
  have bw : badW z = (!(decide (1 ≤ (figsOf z).length) && decide ((figsOf z).length ≤ 30)) || !(figsOf z).cps.toList.all figB || (decide ((figsOf z).cps.toList[0]? = some 48) && decide (z ≠ ⟨#[48]⟩))) := rfl
  generalize figsOf z = y at yl ya bw ⊢
  have ys : y.length ≤ sizeLine := by rw [sizeLine_eq]; lia
  refine ⟨_, rfl, _, rfl, ys, _, _, rfl, rfl, _, rfl, ?_⟩
  by_cases l1 : 1 ≤ y.length
  · rw [decide_eq_true (show (1 : Int) ≤ ((y.length : Nat) : Int) by lia)]
    rw [decide_eq_true l1, Bool.true_and] at bw
    refine iteT ⟨_, _, rfl, rfl, _, rfl, ?_⟩
    by_cases l30 : y.length ≤ 30
    · rw [decide_eq_true (show ((y.length : Nat) : Int) ≤ 30 by lia)]
      rw [decide_eq_true l30] at bw
      refine iteF ⟨_, rfl, _, rfl, ascii_of fun c hc => asc c (ya c hc), fun l hl => ?_⟩
      refine lc_str (z := y) (fun i acc σ H2 => (∃ v, σ = [v]) ∧ Same H H2 ∧ H2 l = some (.lst acc) ∧ acc = ((y.cps.toList.take i).map figB).map V.bl) ⟨⟨_, rfl⟩, same_new hl _, upd_same, by rw [List.take_zero]; rfl⟩ (fun i acc σ H2 q => q.2.2.1) ?_ ?_
      · rintro i c acc σ H2 hc ⟨⟨v, rfl⟩, s2, h2, rfl⟩
        have il : i < y.length := (Array.getElem?_eq_some_iff.mp hc).1
        have ic : y.cps.toList[i]? = some c := by rw [Array.getElem?_toList]; exact hc
        refine ⟨_, rfl, _, _, rfl, rfl, ?_⟩
        rw [fig_is]
        refine ⟨h2, ?_, nx il ⟨⟨_, rfl⟩, fun b o e => ?_, upd_same, ?_⟩⟩
        · rw [List.length_map, List.length_map, List.length_take, sizeLine_eq]; lia
        · rw [upd_ne (ne_of_none e hl)]; exact s2 b o e
        · rw [List.take_succ, ic, List.map_append, List.map_append]; rfl
      rintro acc σ H2 ⟨⟨v, rfl⟩, s2, h2, rfl⟩
      refine ⟨l, _, rfl, SqL.of h2, _, rfl, ?_⟩
      rw [take_len, all_id]
      cases al : y.cps.toList.all figB with
      | false =>
        rw [al] at bw
        rw [numO_bad (bw.trans (by simp))] at k
        exact iteT (k H2 s2)
      | true =>
        rw [al] at bw
        refine iteF ⟨_, rfl, rfl, _, _, rfl, rfl, _, rfl, ?_⟩
        rw [s_nought, starts_one]
        have fin : badW z = false → ∃ n : Int, n.natAbs < 10 ^ 30 ∧ z = txt n ∧ Q (.int n) H2 := fun b => by
          obtain ⟨n, e1, e2, e3⟩ := numO_some b
          have k' := k H2 s2
          rw [e1] at k'
          exact ⟨n, e2, e3, k'⟩
        by_cases c0 : y.cps.toList[0]? = some 48
        · rw [decide_eq_true c0]
          rw [decide_eq_true c0] at bw
          refine iteT ⟨_, rfl, rfl, _, rfl, ?_⟩
          by_cases z0 : z = ⟨#[48]⟩
          · rw [show (!decide (V.str z = V.str ⟨#[48]⟩)) = false from by rw [z0, decide_eq_true rfl]; rfl]
            rw [decide_eq_false (fun q => q z0)] at bw
            obtain ⟨n, e2, e3, k'⟩ := fin (bw.trans rfl)
            exact iteF ⟨_, rfl, _, n, rfl, by rw [e3]; exact txt_reads e2, by rw [z0]; decide, k'⟩
          · rw [decide_eq_false (fun q => z0 (V.str.inj q))]
            rw [decide_eq_true z0] at bw
            rw [numO_bad (bw.trans rfl)] at k
            exact iteT (k H2 s2)
        · rw [decide_eq_false c0]
          rw [decide_eq_false c0] at bw
          obtain ⟨n, e2, e3, k'⟩ := fin (bw.trans rfl)
          have tl := txt_len e2
          rw [← e3] at tl
          exact iteF ⟨_, rfl, _, n, rfl, by rw [e3]; exact txt_reads e2, by lia, k'⟩
    · rw [decide_eq_false (show ¬ ((y.length : Nat) : Int) ≤ 30 by lia)]
      rw [decide_eq_false l30] at bw
      rw [numO_bad (bw.trans rfl)] at k
      exact iteT (k H (Same.refl H))
  · rw [decide_eq_false (show ¬ (1 : Int) ≤ ((y.length : Nat) : Int) by lia)]
    rw [decide_eq_false l1] at bw
    rw [numO_bad (bw.trans rfl)] at k
    exact iteF ⟨_, rfl, iteT (k H (Same.refl H))⟩
theorem ok_numsz {f fN : Addr} {fd dN : FuncData} (F : Fun K "numbers_in" "numbers_in" sNumsIn f fd) (G : Mgs mg) (UN : Use P w K mg base "number_in" ["word"] 1 spNumZ fN dN) : FnOk P w K mg base CX0 2 f fd ["words"] spNumsZ := by
  refine F.ok scNs (fun vs H Q E h => ?_) (fun cdv A outer s H vs Q E hr h => ?_)
  · obtain ⟨l, xs, rfl, _⟩ := h
    rfl
  obtain ⟨l, xs, rfl, hl, l1000, ok, k⟩ := h
  refine ⟨_, (@pss_one _ _ _ (@ps_ret _ _ _ _ (@pe_callTy _ _ _ _ _ _ _ _ _ call_tuple_of (by rfl) G.tuple (by rfl) (@pa_cons _ _ _ _ _ (@pe_lc _ _ _ _ none _ _ _ _ _ _ ["word"] [none] rfl (@pi_list _ _ _ _ (@pv _ 0 _ _ (by rfl) (by first | exact Or.inl rfl | exact Or.inr (Or.inl rfl) | exact Or.inr (Or.inr rfl)) (by decide) (by decide))) (CapOk.of (by kernel_rfl)) (fun _ _ _ _ _ => (@pg_name _ _ 0 _ (show (["word"] : List Str).Nodup from by decide +kernel) rfl (Or.inl rfl) (Or.inr rfl))) (fun _ _ _ _ _ => pt_none) (fun _ _ _ _ _ => (@pe_call _ _ _ _ _ _ _ _ _ _ _ _ _ _ _ _ UN.ok hr (by rfl) UN.m UN.kp UN.b .nil pass0 (@pa_cons _ _ _ _ _ (@pv _ 0 _ _ (by rfl) (by first | exact Or.inl rfl | exact Or.inr (Or.inl rfl) | exact Or.inr (Or.inr rfl)) (by decide) (by decide)) pa_nil (by rfl)) (by decide) (by rfl) (by rfl))) (by intro _; rfl)) pa_nil (by rfl)) (by decide) (by decide) (by rfl) (by rfl)))), ?_⟩
  refine ⟨_, rfl, l, rfl, ⟨_, SqL.of hl⟩, fun lq hlq => ?_⟩
  refine lc_list (K := K) (a := l) (xs := xs.map V.str) (fun j acc σ H2 => (∃ v, σ = [v]) ∧ Same H H2 ∧ H2 lq = some (.lst acc) ∧ acc = ((xs.take j).map numO).map valO) ⟨⟨_, rfl⟩, same_new hlq _, upd_same, by rw [List.take_zero]; rfl⟩ (fun j acc σ H2 q => ⟨q.2.2.1, SqL.of (q.2.1 _ _ hl)⟩) ?_ ?_
  · rintro j x acc σ H2 hx ⟨⟨v, rfl⟩, s2, h2, rfl⟩
    have jl : j < xs.length := by have := (List.getElem?_eq_some_iff.mp hx).1; rwa [List.length_map] at this
    rw [List.getElem?_map, List.getElem?_eq_getElem jl] at hx
    obtain rfl := Option.some.inj hx
    refine ⟨_, rfl, xs[j], rfl, ok _ (List.getElem_mem jl), fun H3 s3 => ?_⟩
    refine ⟨s3 _ _ h2, by rw [List.length_map, List.length_map, List.length_take, sizeLine_eq]; lia, nx (by rw [List.length_map]; exact jl) ⟨⟨_, rfl⟩, fun b o e => ?_, upd_same, ?_⟩⟩
    · rw [upd_ne (ne_of_none e hlq)]; exact (s2.trans s3) b o e
    · rw [List.take_succ_eq_append_getElem jl, List.map_append, List.map_append]; rfl
  rintro acc σ H2 ⟨⟨v, rfl⟩, s2, h2, rfl⟩
  rw [List.length_map, List.take_length] at h2
  refine ⟨lq, _, rfl, .inl ⟨SqL.of h2, fun p hp => ?_⟩⟩
  exact k p _ (s2.trans (same_new hp _)) upd_same
end
end K77
end
section
set_option maxHeartbeats 4000001
namespace K77
open PySem L2 Own Bn
abbrev sWhole : Stmt := top 8
abbrev sBelow : Stmt := top 9
abbrev sIsRow : Stmt := top 10
def spWhole (K : PySem.W.Frag) : Sp := fun vs H Q _ => ∃ x, vs = [x] ∧ AnyT K H x ∧ Q (.bl (wholeV x)) H
def spBelow (K : PySem.W.Frag) : Sp := fun vs H Q _ => ∃ x b, vs = [x, .int b] ∧ AnyT K H x ∧ Q (.bl (belowV b x)) H
def spIsRow (K : PySem.W.Frag) : Sp := fun vs H Q _ => ∃ x m, vs = [x, .int m] ∧ AnyT K H x ∧ Q (.bl (rowV H m x)) H
section
variable {P : Program} {w : World} {K : PySem.W.Frag} {mg : Str → Option Value} {base : Heap}
theorem scKw : FnScope ["thing"] ["thing"] (defScope sWhole) := ⟨rfl, rfl, rfl, by decide +kernel, rfl, by decide +kernel, by decide +kernel⟩
theorem ok_whole {f : Addr} {fd : FuncData} (F : Fun K "is_whole" "is_whole" sWhole f fd) (G : Mgs mg) : FnOk P w K mg base CX0 1 f fd ["thing"] (spWhole K) := by
  refine F.ok scKw (fun vs H Q E h => ?_) (fun cdv A outer s H vs Q E hr h => ?_)
  · obtain ⟨x, rfl, _⟩ := h
    rfl
  obtain ⟨x, rfl, ax, k⟩ := h
  refine ⟨_, (@pss_one _ _ _ (@ps_ret _ _ _ _ (@pe_and _ _ _ _ _ _ _ (@pe_callB _ _ _ _ _ _ _ _ _ call_isi (by rfl) G.isi (by rfl) (@pa_cons _ _ _ _ _ (@pv _ 0 _ _ (by rfl) (by first | exact Or.inl rfl | exact Or.inr (Or.inl rfl) | exact Or.inr (Or.inr rfl)) (by decide) (by decide)) (@pa_cons _ _ _ _ _ (@pe_bltn _ _ (.ty "int") (.type "int") _ (by rfl) G.int (by rfl) rfl (by decide) (by decide)) pa_nil (by rfl)) (by rfl)) (by decide) (by decide) (by rfl) (by rfl)) (@pe_one _ _ _ _ _ (@pe_not _ _ _ _ (@pe_callB _ _ _ _ _ _ _ _ _ call_isi (by rfl) G.isi (by rfl) (@pa_cons _ _ _ _ _ (@pv _ 0 _ _ (by rfl) (by first | exact Or.inl rfl | exact Or.inr (Or.inl rfl) | exact Or.inr (Or.inr rfl)) (by decide) (by decide)) (@pa_cons _ _ _ _ _ (@pe_bltn _ _ (.ty "bool") (.type "bool") _ (by rfl) G.bool (by rfl) rfl (by decide) (by decide)) pa_nil (by rfl)) (by rfl)) (by decide) (by decide) (by rfl) (by rfl))))))), ?_⟩
  obtain ⟨t, I⟩ := ax.isi
  refine ⟨_, rfl, _, "int", _, _, rfl, I.ty, I.int, _, rfl, ?_⟩
  cases x with
  | int i => exact iteT ⟨_, rfl, _, "bool", _, _, rfl, I.ty, I.bool, _, rfl, k⟩
  | bl b => exact iteT ⟨_, rfl, _, "bool", _, _, rfl, I.ty, I.bool, _, rfl, k⟩
  | non => exact iteF k
  | str z => exact iteF k
  | flt z => exact iteF k
  | byt z => exact iteF k
  | ref z => exact iteF k
  | ty z => exact iteF k
theorem scKb : FnScope ["thing", "bound"] ["thing", "bound"] (defScope sBelow) := ⟨rfl, rfl, rfl, by decide +kernel, rfl, by decide +kernel, by decide +kernel⟩
theorem ok_below {f fW : Addr} {fd dW : FuncData} (F : Fun K "is_below" "is_below" sBelow f fd) (G : Mgs mg) (UW : Use P w K mg base "is_whole" ["thing"] 1 (spWhole K) fW dW) : FnOk P w K mg base CX0 2 f fd ["thing", "bound"] (spBelow K) := by
  refine F.ok scKb (fun vs H Q E h => ?_) (fun cdv A outer s H vs Q E hr h => ?_)
  · obtain ⟨x, b, rfl, _⟩ := h
    rfl
  obtain ⟨x, b, rfl, ax, k⟩ := h
  refine ⟨_, (@pss_one _ _ _ (@ps_ret _ _ _ _ (@pe_and _ _ _ _ _ _ _ (@pe_call _ _ _ _ _ _ _ _ _ _ _ _ _ _ _ _ UW.ok hr (by rfl) UW.m UW.kp UW.b .nil pass0 (@pa_cons _ _ _ _ _ (@pv _ 0 _ _ (by rfl) (by first | exact Or.inl rfl | exact Or.inr (Or.inl rfl) | exact Or.inr (Or.inr rfl)) (by decide) (by decide)) pa_nil (by rfl)) (by decide) (by rfl) (by rfl)) (@pe_one _ _ _ _ _ (@pe_chain _ _ _ _ _ _ _ _ _ _ _ _ op_le op_lt pe_int (@pv _ 0 _ _ (by rfl) (by first | exact Or.inl rfl | exact Or.inr (Or.inl rfl) | exact Or.inr (Or.inr rfl)) (by decide) (by decide)) (@pv _ 1 _ _ (by rfl) (by first | exact Or.inl rfl | exact Or.inr (Or.inl rfl) | exact Or.inr (Or.inr rfl)) (by decide) (by decide)) (by with_unfolding_all rfl)))))), ?_⟩
  refine ⟨_, rfl, _, rfl, ax, _, rfl, ?_⟩
  cases x with
  | int i =>
    refine iteT ⟨_, rfl, _, _, rfl, rfl, _, rfl, ?_⟩
    have e : belowV b (.int i) = (decide (0 ≤ i) && decide (i < b)) := rfl
    rw [e] at k
    by_cases z : (0 : Int) ≤ i
    · rw [decide_eq_true z] at k ⊢
      exact iteT ⟨_, rfl, _, _, rfl, rfl, k⟩
    · rw [decide_eq_false z] at k ⊢
      exact iteF k
  | bl z => exact iteF k
  | non => exact iteF k
  | str z => exact iteF k
  | flt z => exact iteF k
  | byt z => exact iteF k
  | ref z => exact iteF k
  | ty z => exact iteF k
theorem scKr : FnScope ["thing", "many"] ["thing", "many"] (defScope sIsRow) := ⟨rfl, rfl, rfl, by decide +kernel, rfl, by decide +kernel, by decide +kernel⟩
theorem ok_isrow {f : Addr} {fd : FuncData} (F : Fun K "is_row" "is_row" sIsRow f fd) (G : Mgs mg) : FnOk P w K mg base CX0 1 f fd ["thing", "many"] (spIsRow K) := by
  refine F.ok scKr (fun vs H Q E h => ?_) (fun cdv A outer s H vs Q E hr h => ?_)
  · obtain ⟨x, m, rfl, _⟩ := h
    rfl
  obtain ⟨x, m, rfl, ax, k⟩ := h
  refine ⟨_, (@pss_one _ _ _ (@ps_ret _ _ _ _ (@pe_and _ _ _ _ _ _ _ (@pe_callB _ _ _ _ _ _ _ _ _ call_isi (by rfl) G.isi (by rfl) (@pa_cons _ _ _ _ _ (@pv _ 0 _ _ (by rfl) (by first | exact Or.inl rfl | exact Or.inr (Or.inl rfl) | exact Or.inr (Or.inr rfl)) (by decide) (by decide)) (@pa_cons _ _ _ _ _ (@pe_bltn _ _ (.ty "tuple") (.type "tuple") _ (by rfl) G.tuple (by rfl) rfl (by decide) (by decide)) pa_nil (by rfl)) (by rfl)) (by decide) (by decide) (by rfl) (by rfl)) (@pe_one _ _ _ _ _ (@pe_cmpR _ _ _ _ _ _ _ _ op_eq (@pe_callB _ _ _ _ _ _ _ _ _ call_len_seq (by rfl) G.len PySem.boot_len (@pa_cons _ _ _ _ _ (@pv _ 0 _ _ (by rfl) (by first | exact Or.inl rfl | exact Or.inr (Or.inl rfl) | exact Or.inr (Or.inr rfl)) (by decide) (by decide)) pa_nil (by rfl)) (by decide) (by decide) (by rfl) (by rfl)) (@pv _ 1 _ _ (by rfl) (by first | exact Or.inl rfl | exact Or.inr (Or.inl rfl) | exact Or.inr (Or.inr rfl)) (by decide) (by decide)) (nomark _)))))), ?_⟩
  obtain ⟨t, I⟩ := ax.isi
  refine ⟨_, rfl, _, "tuple", _, _, rfl, I.ty, I.tup, _, rfl, ?_⟩
  cases z : rowOf H x with
  | none =>
    have e : rowV H m x = false := by unfold rowV; rw [z]
    rw [e] at k
    exact iteF k
  | some xs =>
    have e : rowV H m x = decide ((xs.length : Int) = m) := by unfold rowV; rw [z]
    rw [e] at k
    obtain ⟨a, rfl, ha⟩ := rowOf_some z
    exact iteT ⟨_, rfl, a, _, rfl, .inr (SqT.of ha), _, rfl, rfl, by rw [int_dec]; exact k⟩
end
end K77
end
section
set_option maxHeartbeats 4000001
namespace K77
open PySem L2 Own Bn
abbrev sAreBelow : Stmt := top 11
abbrev sIsFork : Stmt := top 17
abbrev sAreForks : Stmt := top 16
abbrev sAllLanes : Stmt := top 18
abbrev sIsNet : Stmt := top 15
def spAreBelow (K : PySem.W.Frag) : Sp := fun vs H Q _ => ∃ x, ∃ many b : Int, vs = [x, .int many, .int b] ∧ Deep K H 1 x ∧ many ≤ 16 ∧ ∀ H', Same H H' → Q (.bl (belowsV H many b x)) H'
def spIsFork (K : PySem.W.Frag) : Sp := fun vs H Q _ => ∃ x, ∃ b : Int, vs = [.int b, x] ∧ Deep K H 1 x ∧ Q (.bl (forkV H b x)) H
def spAreForks (K : PySem.W.Frag) : Sp := fun vs H Q _ => ∃ x, ∃ b : Int, vs = [.int b, x] ∧ Deep K H 2 x ∧ ∀ H', Same H H' → Q (.bl (forksV H b x)) H'
def spAllLanes (K : PySem.W.Frag) : Sp := fun vs H Q _ => ∃ x, ∃ b : Int, vs = [.int b, x] ∧ Deep K H 1 x ∧ 1 ≤ b ∧ b ≤ 16 ∧ ∀ H', Same H H' → Q (.bl (lanesV H b x)) H'
def spIsNet (K : PySem.W.Frag) : Sp := fun vs H Q _ => ∃ x, vs = [x] ∧ Deep K H 3 x ∧ ∀ H', Same H H' → Q (.bl (netV H x)) H'
theorem fork_same {K : PySem.W.Frag} {H H' : Hp} {x : V} {b : Int} (s : Same H H') (a : AnyT K H x) : forkV H' b x = forkV H b x := by unfold forkV; rw [row_same s a]
theorem Deep.same {K : PySem.W.Frag} {H H' : Hp} (s : Same H H') : ∀ {n : Nat} {x : V}, Deep K H n x → Deep K H' n x
  | 0, _, h => AnyT.same s h
  | n + 1, x, h => ⟨AnyT.same s h.1, fun xs e => by
    rw [row_same s h.1] at e
    exact ⟨(h.2 xs e).1, fun y hy => Deep.same s ((h.2 xs e).2 y hy)⟩⟩
section
variable {P : Program} {w : World} {K : PySem.W.Frag} {mg : Str → Option Value} {base : Heap}
theorem scAb : FnScope ["thing", "many", "bound"] ["thing", "many", "bound"] (defScope sAreBelow) := ⟨rfl, rfl, rfl, by decide +kernel, rfl, by decide +kernel, by decide +kernel⟩
theorem ok_arebelow {f fR fB : Addr} {fd dR dB : FuncData} (F : Fun K "are_below" "are_below" sAreBelow f fd) (G : Mgs mg) (UR : Use P w K mg base "is_row" ["thing", "many"] 1 (spIsRow K) fR dR) (UB : Use P w K mg base "is_below" ["thing", "bound"] 2 (spBelow K) fB dB) : FnOk P w K mg base CX0 3 f fd ["thing", "many", "bound"] (spAreBelow K) := by
  refine F.ok scAb (fun vs H Q E h => ?_) (fun cdv A outer s H vs Q E hr h => ?_)
  · obtain ⟨x, many, b, rfl, _⟩ := h
    rfl
  obtain ⟨x, many, b, rfl, dx, m16, k⟩ := h
  have hr1 : Room 1 _ := hr.mono (by decide)
  refine ⟨_, (@pss_one _ _ _ (@ps_ret _ _ _ _ (@pe_and _ _ _ _ _ _ _ (@pe_call _ _ _ _ _ _ _ _ _ _ _ _ _ _ _ _ UR.ok hr1 (by rfl) UR.m UR.kp UR.b .nil pass0 (@pa_cons _ _ _ _ _ (@pv _ 0 _ _ (by rfl) (by first | exact Or.inl rfl | exact Or.inr (Or.inl rfl) | exact Or.inr (Or.inr rfl)) (by decide) (by decide)) (@pa_cons _ _ _ _ _ (@pv _ 1 _ _ (by rfl) (by first | exact Or.inl rfl | exact Or.inr (Or.inl rfl) | exact Or.inr (Or.inr rfl)) (by decide) (by decide)) pa_nil (by rfl)) (by rfl)) (by decide) (by rfl) (by rfl)) (@pe_one _ _ _ _ _ (@pe_callB _ _ _ _ _ _ _ _ _ (call_allB rfl true) (by rfl) G.all (by rfl) (@pa_cons _ _ _ _ _ (@pe_lc _ _ _ _ none _ _ _ _ _ _ ["number", "bound"] [none, some 2] rfl (@pi_tup _ _ _ _ (@pv _ 0 _ _ (by rfl) (by first | exact Or.inl rfl | exact Or.inr (Or.inl rfl) | exact Or.inr (Or.inr rfl)) (by decide) (by decide))) (CapOk.of (by kernel_rfl)) (fun _ _ _ _ _ => (@pg_name _ _ 0 _ (show (["number", "bound"] : List Str).Nodup from by decide +kernel) rfl (Or.inl rfl) (Or.inr rfl))) (fun _ _ _ _ _ => pt_none) (fun _ _ _ _ _ => (@pe_call _ _ _ _ _ _ _ _ _ _ _ _ _ _ _ _ UB.ok hr (by rfl) UB.m UB.kp UB.b .nil pass0 (@pa_cons _ _ _ _ _ (@pv _ 0 _ _ (by rfl) (by first | exact Or.inl rfl | exact Or.inr (Or.inl rfl) | exact Or.inr (Or.inr rfl)) (by decide) (by decide)) (@pa_cons _ _ _ _ _ (@pv _ 1 _ _ (by rfl) (by first | exact Or.inl rfl | exact Or.inr (Or.inl rfl) | exact Or.inr (Or.inr rfl)) (by decide) (by decide)) pa_nil (by rfl)) (by rfl)) (by decide) (by rfl) (by rfl))) (by intro _; rfl)) pa_nil (by rfl)) (by decide) (by decide) (by rfl) (by rfl)))))), ?_⟩
  refine ⟨_, rfl, _, rfl, x, many, rfl, dx.any, _, rfl, ?_⟩
  cases z : rowOf H x with
  | none =>
    have e : rowV H many x = false := by unfold rowV; rw [z]
    have e2 : belowsV H many b x = false := by unfold belowsV; rw [z]
    rw [e]
    rw [e2] at k
    exact iteF (k H (Same.refl H))
  | some xs =>
    have e : rowV H many x = decide ((xs.length : Int) = many) := by unfold rowV; rw [z]
    have e2 : belowsV H many b x = (decide ((xs.length : Int) = many) && xs.all (belowV b)) := by unfold belowsV; rw [z]
    rw [e]
    rw [e2] at k
    obtain ⟨a, rfl, ha⟩ := rowOf_some z
    by_cases lm : (xs.length : Int) = many
    · rw [decide_eq_true lm] at k ⊢
      refine iteT ⟨_, rfl, a, rfl, ⟨_, SqT.of ha⟩, fun l hl => ?_⟩
      refine lc_tup (K := K) (a := a) (xs := xs) (fun i acc σ H2 => (∃ v, σ = [v, some (.int b)]) ∧ Same H H2 ∧ H2 l = some (.lst acc) ∧ acc = ((xs.take i).map (belowV b)).map V.bl) ⟨⟨_, rfl⟩, same_new hl _, upd_same, rfl⟩ (fun i acc σ H2 q => ⟨q.2.2.1, SqT.of (q.2.1 _ _ ha)⟩) ?_ ?_
      · rintro i y acc σ H2 hy ⟨⟨v, rfl⟩, s2, h2, rfl⟩
        have il := (List.getElem?_eq_some_iff.mp hy).1
        refine ⟨_, rfl, _, rfl, y, b, rfl, AnyT.same s2 (((dx.2 xs z).2 y (List.mem_of_getElem? hy))), ?_⟩
        refine ⟨h2, ?_, nx il ⟨⟨_, rfl⟩, fun c o e => ?_, upd_same, ?_⟩⟩
        · rw [List.length_map, List.length_map, List.length_take]; exact Nat.lt_of_le_of_lt (Nat.min_le_left _ _) (Nat.lt_of_lt_of_le (show i < 1000 by lia) (by decide))
        · rw [upd_ne (ne_of_none e hl)]; exact s2 c o e
        · have ye : xs[i] = y := (List.getElem?_eq_some_iff.mp hy).2
          rw [List.take_succ_eq_append_getElem il, List.map_append, List.map_append, ye]; rfl
      · rintro acc σ H2 ⟨⟨v, rfl⟩, s2, h2, rfl⟩
        rw [List.take_length] at h2
        refine ⟨l, xs.map (belowV b), rfl, SqL.of h2, ?_⟩
        rw [List.all_map]
        exact k H2 s2
    · rw [decide_eq_false lm] at k ⊢
      exact iteF (k H (Same.refl H))
theorem scIf : FnScope ["lanes", "thing", "one", "other"] ["lanes", "thing"] (defScope sIsFork) := ⟨rfl, rfl, rfl, by decide +kernel, rfl, by decide +kernel, by decide +kernel⟩
theorem ok_isfork {f fR fB : Addr} {fd dR dB : FuncData} (F : Fun K "is_fork" "is_fork" sIsFork f fd) (G : Mgs mg) (UR : Use P w K mg base "is_row" ["thing", "many"] 1 (spIsRow K) fR dR) (UB : Use P w K mg base "is_below" ["thing", "bound"] 2 (spBelow K) fB dB) : FnOk P w K mg base CX0 3 f fd ["lanes", "thing"] (spIsFork K) := by
  refine F.ok scIf (fun vs H Q E h => ?_) (fun cdv A outer s H vs Q E hr h => ?_)
  · obtain ⟨x, b, rfl, _⟩ := h
    rfl
  obtain ⟨x, b, rfl, dx, k⟩ := h
  have hr1 : Room 1 _ := hr.mono (by decide)
  refine ⟨_, (@pss_cons _ _ _ _ _ (@ps_if _ _ _ _ _ _ _ _ (@pt_not _ _ _ _ (@pt_val _ _ _ (@pe_call _ _ _ _ _ _ _ _ _ _ _ _ _ _ _ _ UR.ok hr1 (by rfl) UR.m UR.kp UR.b .nil pass0 (@pa_cons _ _ _ _ _ (@pv _ 1 _ _ (by rfl) (by first | exact Or.inl rfl | exact Or.inr (Or.inl rfl) | exact Or.inr (Or.inr rfl)) (by decide) (by decide)) (@pa_cons _ _ _ _ _ pe_int pa_nil (by rfl)) (by rfl)) (by decide) (by rfl) (by rfl)) (by intro _; rfl))) (@pss_one _ _ _ (@ps_ret _ _ _ _ pe_bl)) pss_nil) (@pss_cons _ _ _ _ _ (@ps_asg _ _ _ _ _ _ (@pv _ 1 _ _ (by rfl) (by first | exact Or.inl rfl | exact Or.inr (Or.inl rfl) | exact Or.inr (Or.inr rfl)) (by decide) (by decide)) (@pg_tup _ _ _ _ _ _ rfl (@pgs_cons _ _ _ _ _ (@pg_name _ _ 2 _ scIf.nd rfl (Or.inl rfl) (by first | exact .inl rfl | exact .inr rfl | assumption)) (@pgs_cons _ _ _ _ _ (@pg_name _ _ 3 _ scIf.nd rfl (Or.inl rfl) (by first | exact .inl rfl | exact .inr rfl | assumption)) pgs_nil (by rfl)) (by rfl)) (by rfl) (by rfl)) (by rfl) (by rfl) (by rfl)) (@pss_one _ _ _ (@ps_ret _ _ _ _ (@pe_and _ _ _ _ _ _ _ (@pe_call _ _ _ _ _ _ _ _ _ _ _ _ _ _ _ _ UB.ok hr (by rfl) UB.m UB.kp UB.b .nil pass0 (@pa_cons _ _ _ _ _ (@pv _ 2 _ _ (by rfl) (by first | exact Or.inl rfl | exact Or.inr (Or.inl rfl) | exact Or.inr (Or.inr rfl)) (by decide) (by decide)) (@pa_cons _ _ _ _ _ (@pv _ 0 _ _ (by rfl) (by first | exact Or.inl rfl | exact Or.inr (Or.inl rfl) | exact Or.inr (Or.inr rfl)) (by decide) (by decide)) pa_nil (by rfl)) (by rfl)) (by decide) (by rfl) (by rfl)) (@pe_and _ _ _ _ _ _ _ (@pe_call _ _ _ _ _ _ _ _ _ _ _ _ _ _ _ _ UB.ok hr (by rfl) UB.m UB.kp UB.b .nil pass0 (@pa_cons _ _ _ _ _ (@pv _ 3 _ _ (by rfl) (by first | exact Or.inl rfl | exact Or.inr (Or.inl rfl) | exact Or.inr (Or.inr rfl)) (by decide) (by decide)) (@pa_cons _ _ _ _ _ (@pv _ 0 _ _ (by rfl) (by first | exact Or.inl rfl | exact Or.inr (Or.inl rfl) | exact Or.inr (Or.inr rfl)) (by decide) (by decide)) pa_nil (by rfl)) (by rfl)) (by decide) (by rfl) (by rfl)) (@pe_one _ _ _ _ _ (@pe_cmpR _ _ _ _ _ _ _ _ op_ne (@pv _ 2 _ _ (by rfl) (by first | exact Or.inl rfl | exact Or.inr (Or.inl rfl) | exact Or.inr (Or.inr rfl)) (by decide) (by decide)) (@pv _ 3 _ _ (by rfl) (by first | exact Or.inl rfl | exact Or.inr (Or.inl rfl) | exact Or.inr (Or.inr rfl)) (by decide) (by decide)) (nomark _))))))))), ?_⟩
  refine ⟨_, rfl, x, 2, rfl, dx.any, _, rfl, ?_⟩
  cases z : rowOf H x with
  | none =>
    have e : rowV H 2 x = false := by unfold rowV; rw [z]
    have e2 : forkV H b x = false := by unfold forkV; rw [z]
    rw [e]
    rw [e2] at k
    exact iteT k
  | some xs =>
    have e : rowV H 2 x = decide ((xs.length : Int) = 2) := by unfold rowV; rw [z]
    rw [e]
    obtain ⟨a, rfl, ha⟩ := rowOf_some z
    have ay := (dx.2 xs z).2
    match xs, z, ha, ay with
    | [], z, _, _ =>
      have e2 : forkV H b (.ref a) = false := by unfold forkV; rw [z]
      rw [e2] at k
      exact iteT k
    | [_], z, _, _ =>
      have e2 : forkV H b (.ref a) = false := by unfold forkV; rw [z]
      rw [e2] at k
      exact iteT k
    | [y, y2], z, ha, ay =>
      have e2 : forkV H b (.ref a) = (belowV b y && (belowV b y2 && !decide (y = y2))) := by unfold forkV; rw [z]
      rw [e2] at k
      refine iteF ⟨_, rfl, a, _, rfl, SqT.of ha, rfl, _, _, rfl, _, _, rfl, rfl, ?_⟩
      refine ⟨_, rfl, _, rfl, y, b, rfl, ay y (by simp), _, rfl, ?_⟩
      cases q : belowV b y with
      | false => rw [q] at k; exact iteF k
      | true =>
        rw [q] at k
        refine iteT ⟨_, rfl, _, rfl, y2, b, rfl, ay y2 (by simp), _, rfl, ?_⟩
        cases q2 : belowV b y2 with
        | false => rw [q2] at k; exact iteF k
        | true =>
          rw [q2] at k
          refine iteT ?_
          cases y with
          | int i =>
            cases y2 with
            | int j => exact ⟨_, rfl, _, rfl, rfl, k⟩
            | _ => cases q2
          | _ => cases q
    | _ :: _ :: _ :: _, z, _, _ =>
      have e2 : forkV H b (.ref a) = false := by unfold forkV; rw [z]
      rw [e2] at k
      rw [decide_eq_false (by simp only [List.length_cons]; lia)]
      exact iteT k
theorem scAf : FnScope ["lanes", "thing"] ["lanes", "thing"] (defScope sAreForks) := ⟨rfl, rfl, rfl, by decide +kernel, rfl, by decide +kernel, by decide +kernel⟩
theorem ok_areforks {f fF : Addr} {fd dF : FuncData} {tk : Tok} (F : Fun K "are_forks" "are_forks" sAreForks f fd) (G : Mgs mg) (hM : mg "MOST_FORKS" = some (.int 128 tk)) (UF : Use P w K mg base "is_fork" ["lanes", "thing"] 3 (spIsFork K) fF dF) : FnOk P w K mg base CX0 4 f fd ["lanes", "thing"] (spAreForks K) := by
  refine F.ok scAf (fun vs H Q E h => ?_) (fun cdv A outer s H vs Q E hr h => ?_)
  · obtain ⟨x, b, rfl, _⟩ := h
    rfl
  obtain ⟨x, b, rfl, dx, k⟩ := h
  refine ⟨_, (@pss_cons _ _ _ _ _ (@ps_if _ _ _ _ _ _ _ _ (@pw_or _ _ _ _ _ _ _ (@pt_not _ _ _ _ (@pt_val _ _ _ (@pe_callB _ _ _ _ _ _ _ _ _ call_isi (by rfl) G.isi (by rfl) (@pa_cons _ _ _ _ _ (@pv _ 1 _ _ (by rfl) (by first | exact Or.inl rfl | exact Or.inr (Or.inl rfl) | exact Or.inr (Or.inr rfl)) (by decide) (by decide)) (@pa_cons _ _ _ _ _ (@pe_bltn _ _ (.ty "tuple") (.type "tuple") _ (by rfl) G.tuple (by rfl) rfl (by decide) (by decide)) pa_nil (by rfl)) (by rfl)) (by decide) (by decide) (by rfl) (by rfl)) (by intro _; rfl))) (@pw_or1 _ _ _ _ (@pt_cmpR _ _ _ _ _ _ _ _ op_gt (@pe_callB _ _ _ _ _ _ _ _ _ call_len_seq (by rfl) G.len PySem.boot_len (@pa_cons _ _ _ _ _ (@pv _ 1 _ _ (by rfl) (by first | exact Or.inl rfl | exact Or.inr (Or.inl rfl) | exact Or.inr (Or.inr rfl)) (by decide) (by decide)) pa_nil (by rfl)) (by decide) (by decide) (by rfl) (by rfl)) (@pe_glob _ _ (.int 128) _ _ (by rfl) @hM ⟨_, rfl⟩ (by decide)) (nomark _)))).pt (@pss_one _ _ _ (@ps_ret _ _ _ _ pe_bl)) pss_nil) (@pss_one _ _ _ (@ps_ret _ _ _ _ (@pe_callB _ _ _ _ _ _ _ _ _ (call_allB rfl true) (by rfl) G.all (by rfl) (@pa_cons _ _ _ _ _ (@pe_lc _ _ _ _ none _ _ _ _ _ _ ["fork", "lanes"] [none, some 0] rfl (@pi_tup _ _ _ _ (@pv _ 1 _ _ (by rfl) (by first | exact Or.inl rfl | exact Or.inr (Or.inl rfl) | exact Or.inr (Or.inr rfl)) (by decide) (by decide))) (CapOk.of (by kernel_rfl)) (fun _ _ _ _ _ => (@pg_name _ _ 0 _ (show (["fork", "lanes"] : List Str).Nodup from by decide +kernel) rfl (Or.inl rfl) (Or.inr rfl))) (fun _ _ _ _ _ => pt_none) (fun _ _ _ _ _ => (@pe_call _ _ _ _ _ _ _ _ _ _ _ _ _ _ _ _ UF.ok hr (by rfl) UF.m UF.kp UF.b .nil pass0 (@pa_cons _ _ _ _ _ (@pv _ 1 _ _ (by rfl) (by first | exact Or.inl rfl | exact Or.inr (Or.inl rfl) | exact Or.inr (Or.inr rfl)) (by decide) (by decide)) (@pa_cons _ _ _ _ _ (@pv _ 0 _ _ (by rfl) (by first | exact Or.inl rfl | exact Or.inr (Or.inl rfl) | exact Or.inr (Or.inr rfl)) (by decide) (by decide)) pa_nil (by rfl)) (by rfl)) (by decide) (by rfl) (by rfl))) (by intro _; rfl)) pa_nil (by rfl)) (by decide) (by decide) (by rfl) (by rfl))))), ?_⟩
  obtain ⟨t, I⟩ := dx.any.isi
  refine ⟨_, rfl, _, "tuple", _, _, rfl, I.ty, I.tup, _, rfl, ?_⟩
  cases z : rowOf H x with
  | none =>
    have e3 : forksV H b x = false := by unfold forksV; rw [z]
    rw [e3] at k
    exact iteT (iteT (k H (Same.refl H)))
  | some xs =>
    have e3 : forksV H b x = (decide ((xs.length : Int) ≤ 128) && xs.all (forkV H b)) := by unfold forksV; rw [z]
    rw [e3] at k
    obtain ⟨a, rfl, ha⟩ := rowOf_some z
    have ay := (dx.2 xs z).2
    refine iteF ⟨_, rfl, a, _, rfl, .inr (SqT.of ha), _, _, rfl, rfl, _, rfl, ?_⟩
    by_cases big : (xs.length : Int) ≤ 128
    · rw [decide_eq_true big] at k
      rw [decide_eq_false (show ¬ (128 : Int) < xs.length by lia)]
      refine iteF ⟨_, rfl, a, rfl, ⟨_, SqT.of ha⟩, fun l hl => ?_⟩
      refine lc_tup (K := K) (a := a) (xs := xs) (fun i acc σ H2 => (∃ v, σ = [v, some (.int b)]) ∧ Same H H2 ∧ H2 l = some (.lst acc) ∧ acc = ((xs.take i).map (forkV H b)).map V.bl) ⟨⟨_, rfl⟩, same_new hl _, upd_same, rfl⟩ (fun i acc σ H2 q => ⟨q.2.2.1, SqT.of (q.2.1 _ _ ha)⟩) ?_ ?_
      · rintro i y acc σ H2 hy ⟨⟨v, rfl⟩, s2, h2, rfl⟩
        have il := (List.getElem?_eq_some_iff.mp hy).1
        have a2 := ay y (List.mem_of_getElem? hy)
        refine ⟨_, rfl, _, rfl, y, b, rfl, Deep.same s2 a2, ?_⟩
        rw [fork_same s2 a2.any]
        refine ⟨h2, ?_, nx il ⟨⟨_, rfl⟩, fun c o e => ?_, upd_same, ?_⟩⟩
        · rw [List.length_map, List.length_map, List.length_take]; exact Nat.lt_of_le_of_lt (Nat.min_le_left _ _) (Nat.lt_of_lt_of_le (show i < 1000 by lia) (by decide))
        · rw [upd_ne (ne_of_none e hl)]; exact s2 c o e
        · have ye : xs[i] = y := (List.getElem?_eq_some_iff.mp hy).2
          rw [List.take_succ_eq_append_getElem il, List.map_append, List.map_append, ye]; rfl
      · rintro acc σ H2 ⟨⟨v, rfl⟩, s2, h2, rfl⟩
        rw [List.take_length] at h2
        refine ⟨l, xs.map (forkV H b), rfl, SqL.of h2, ?_⟩
        rw [List.all_map]
        exact k H2 s2
    · rw [decide_eq_false big] at k
      rw [decide_eq_true (show (128 : Int) < xs.length by lia)]
      exact iteT (k H (Same.refl H))
theorem ints_below {b : Int} : ∀ {xs : List V}, xs.all (belowV b) = true → ∃ ns : List Int, xs = ns.map V.int ∧ ∀ x ∈ ns, 0 ≤ x ∧ x < b
  | [], _ => ⟨[], rfl, fun x h => by simp at h⟩
  | y :: ys, h => by
    replace h : belowV b y = true ∧ ys.all (belowV b) = true := by simpa using h
    obtain ⟨ns, rfl, hn⟩ := ints_below h.2
    cases y with
    | int i =>
      have hi : decide (0 ≤ i) = true ∧ decide (i < b) = true := by rw [← Bool.and_eq_true]; exact h.1
      exact ⟨i :: ns, rfl, fun x hx => by
        rcases List.mem_cons.mp hx with rfl | z
        · exact ⟨of_decide_eq_true hi.1, of_decide_eq_true hi.2⟩
        · exact hn x z⟩
    | _ => exact absurd h.1 Bool.false_ne_true
theorem in_ints (i : Int) : ∀ ns : List Int, inV (V.int i) (ns.map V.int) = decide (i ∈ ns)
  | [] => by simp [inV]
  | n :: ns => by
    have ih := in_ints i ns
    unfold inV at ih ⊢
    rw [List.map_cons, List.any_cons, ih]
    by_cases e : n = i
    · subst e; simp [eqV]
    · have : (i = n) = False := eq_false (fun z => e z.symm)
      simp [eqV, e, List.mem_cons, this]
theorem scAl : FnScope ["lanes", "thing"] ["lanes", "thing"] (defScope sAllLanes) := ⟨rfl, rfl, rfl, by decide +kernel, rfl, by decide +kernel, by decide +kernel⟩
theorem ok_alllanes {f fN : Addr} {fd dN : FuncData} (F : Fun K "are_all_lanes" "are_all_lanes" sAllLanes f fd) (G : Mgs mg) (UN : Use P w K mg base "are_below" ["thing", "many", "bound"] 3 (spAreBelow K) fN dN) : FnOk P w K mg base CX0 4 f fd ["lanes", "thing"] (spAllLanes K) := by
  refine F.ok scAl (fun vs H Q E h => ?_) (fun cdv A outer s H vs Q E hr h => ?_)
  · obtain ⟨x, b, rfl, _⟩ := h
    rfl
  obtain ⟨x, b, rfl, dx, b1, b16, k⟩ := h
  obtain ⟨n, rfl⟩ : ∃ n : Nat, b = n := ⟨b.toNat, by lia⟩
  refine ⟨_, (@pss_one _ _ _ (@ps_ret _ _ _ _ (@pe_and _ _ _ _ _ _ _ (@pe_call _ _ _ _ _ _ _ _ _ _ _ _ _ _ _ _ UN.ok hr (by rfl) UN.m UN.kp UN.b .nil pass0 (@pa_cons _ _ _ _ _ (@pv _ 1 _ _ (by rfl) (by first | exact Or.inl rfl | exact Or.inr (Or.inl rfl) | exact Or.inr (Or.inr rfl)) (by decide) (by decide)) (@pa_cons _ _ _ _ _ (@pv _ 0 _ _ (by rfl) (by first | exact Or.inl rfl | exact Or.inr (Or.inl rfl) | exact Or.inr (Or.inr rfl)) (by decide) (by decide)) (@pa_cons _ _ _ _ _ (@pv _ 0 _ _ (by rfl) (by first | exact Or.inl rfl | exact Or.inr (Or.inl rfl) | exact Or.inr (Or.inr rfl)) (by decide) (by decide)) pa_nil (by rfl)) (by rfl)) (by rfl)) (by decide) (by rfl) (by rfl)) (@pe_one _ _ _ _ _ (@pe_cmpR _ _ _ _ _ _ _ _ (op_eqLi hr.units0) (@pe_callB _ _ _ _ _ _ _ _ _ (call_sortedB false) (by rfl) G.sorted (by rfl) (@pa_cons _ _ _ _ _ (@pv _ 1 _ _ (by rfl) (by first | exact Or.inl rfl | exact Or.inr (Or.inl rfl) | exact Or.inr (Or.inr rfl)) (by decide) (by decide)) pa_nil (by rfl)) (by decide) (by decide) (by rfl) (by rfl)) (@pe_lstRng _ _ _ _ _ _ _ rfl (by rfl) G.list (by rfl) G.range (@pa_cons _ _ _ _ _ (@pv _ 0 _ _ (by rfl) (by first | exact Or.inl rfl | exact Or.inr (Or.inl rfl) | exact Or.inr (Or.inr rfl)) (by decide) (by decide)) pa_nil (by rfl)) (by rfl) (by rfl)) (nomark _)))))), ?_⟩
  refine ⟨_, rfl, _, rfl, _, rfl, x, _, _, rfl, dx, b16, fun H1 s1 => ⟨_, rfl, ?_⟩⟩
  cases z : rowOf H x with
  | none =>
    have e : belowsV H n n x = false := by unfold belowsV; rw [z]
    have e2 : lanesV H n x = false := by unfold lanesV; rw [z]
    rw [e]
    rw [e2] at k
    exact iteF (k H1 s1)
  | some xs =>
    have e : belowsV H n n x = (decide ((xs.length : Int) = n) && xs.all (belowV n)) := by unfold belowsV; rw [z]
    have e2 : lanesV H n x = ((decide ((xs.length : Int) = n) && xs.all (belowV n)) && (List.range (n : Int).toNat).all (fun (i : Nat) => inV (V.int i) xs)) := by unfold lanesV; rw [z]
    rw [e]
    rw [e2] at k
    obtain ⟨a, rfl, ha⟩ := rowOf_some z
    cases q : (decide ((xs.length : Int) = n) && xs.all (belowV n)) with
    | false => rw [q] at k; exact iteF (k H1 s1)
    | true =>
      rw [q] at k
      rw [Bool.and_eq_true] at q
      have xl : xs.length = n := by have := of_decide_eq_true q.1; lia
      obtain ⟨ns, rfl, hn⟩ := ints_below q.2
      rw [List.length_map] at xl
      refine iteT ⟨_, rfl, a, ns, rfl, SqT.of (s1 _ _ ha), by lia, fun l ms hl pm sm => ?_⟩
      have s2 := s1.trans (same_new hl (.lst (ms.map V.int)))
      refine ⟨_, rfl, n, rfl, by lia, fun p hp => ?_⟩
      have s3 := same_new hp (if true = true then HO.lst (upTo n) else .tup (upTo n))
      have hp3 : L2.upd (L2.upd H1 l (.lst (ms.map V.int))) p (if true = true then HO.lst (upTo n) else .tup (upTo n)) p = some (.lst (((List.range n).map fun (i : Nat) => (i : Int)).map V.int)) := by
        rw [upd_same, List.map_map]; rfl
      refine ⟨l, p, ms, _, rfl, rfl, SqL.of (s3 _ _ upd_same), SqL.of hp3, ?_⟩
      have fe : ((List.range (n : Int).toNat).all (fun (i : Nat) => inV (V.int i) (ns.map V.int))) = decide (ms = (List.range n).map fun (i : Nat) => (i : Int)) := by
        have fi := full_iff xl pm sm
        rw [show (n : Int).toNat = n by lia]
        by_cases y : ms = (List.range n).map fun (i : Nat) => (i : Int)
        · rw [decide_eq_true y, List.all_eq_true]
          intro i hi
          rw [in_ints, decide_eq_true (fi.mp y i (List.mem_range.mp hi))]
        · rw [decide_eq_false y]
          cases u : (List.range n).all (fun (i : Nat) => inV (V.int i) (ns.map V.int)) with
          | false => rfl
          | true =>
            refine absurd (fi.mpr fun i hi => ?_) y
            have := List.all_eq_true.mp u i (List.mem_range.mpr hi)
            rw [in_ints] at this
            exact of_decide_eq_true this
      rw [fe, Bool.true_and] at k
      exact k _ (s2.trans s3)
theorem scNe : FnScope ["thing", "lanes", "forks", "ends"] ["thing"] (defScope sIsNet) := ⟨rfl, rfl, rfl, by decide +kernel, rfl, by decide +kernel, by decide +kernel⟩
theorem ok_isnet {f fR fW fA fE : Addr} {fd dR dW dA dE : FuncData} {tk : Tok} (F : Fun K "is_net" "is_net" sIsNet f fd) (G : Mgs mg) (hM : mg "MOST_LANES" = some (.int 16 tk)) (UR : Use P w K mg base "is_row" ["thing", "many"] 1 (spIsRow K) fR dR) (UW : Use P w K mg base "is_whole" ["thing"] 1 (spWhole K) fW dW) (UA : Use P w K mg base "are_forks" ["lanes", "thing"] 4 (spAreForks K) fA dA) (UE : Use P w K mg base "are_all_lanes" ["lanes", "thing"] 4 (spAllLanes K) fE dE) : FnOk P w K mg base CX0 5 f fd ["thing"] (spIsNet K) := by
  refine F.ok scNe (fun vs H Q E h => ?_) (fun cdv A outer s H vs Q E hr h => ?_)
  · obtain ⟨x, rfl, _⟩ := h
    rfl
  obtain ⟨x, rfl, dx, k'⟩ := h
  have hr1 : Room 1 _ := hr.mono (by decide)
  refine ⟨_, (@pss_cons _ _ _ _ _ (@ps_if _ _ _ _ _ _ _ _ (@pt_not _ _ _ _ (@pt_val _ _ _ (@pe_call _ _ _ _ _ _ _ _ _ _ _ _ _ _ _ _ UR.ok hr1 (by rfl) UR.m UR.kp UR.b .nil pass0 (@pa_cons _ _ _ _ _ (@pv _ 0 _ _ (by rfl) (by first | exact Or.inl rfl | exact Or.inr (Or.inl rfl) | exact Or.inr (Or.inr rfl)) (by decide) (by decide)) (@pa_cons _ _ _ _ _ pe_int pa_nil (by rfl)) (by rfl)) (by decide) (by rfl) (by rfl)) (by intro _; rfl))) (@pss_one _ _ _ (@ps_ret _ _ _ _ pe_bl)) pss_nil) (@pss_cons _ _ _ _ _ (@ps_asg _ _ _ _ _ _ (@pv _ 0 _ _ (by rfl) (by first | exact Or.inl rfl | exact Or.inr (Or.inl rfl) | exact Or.inr (Or.inr rfl)) (by decide) (by decide)) (@pg_tup _ _ _ _ _ _ rfl (@pgs_cons _ _ _ _ _ (@pg_name _ _ 1 _ scNe.nd rfl (Or.inl rfl) (by first | exact .inl rfl | exact .inr rfl | assumption)) (@pgs_cons _ _ _ _ _ (@pg_name _ _ 2 _ scNe.nd rfl (Or.inl rfl) (by first | exact .inl rfl | exact .inr rfl | assumption)) (@pgs_cons _ _ _ _ _ (@pg_name _ _ 3 _ scNe.nd rfl (Or.inl rfl) (by first | exact .inl rfl | exact .inr rfl | assumption)) pgs_nil (by rfl)) (by rfl)) (by rfl)) (by rfl) (by rfl)) (by rfl) (by rfl) (by rfl)) (@pss_cons _ _ _ _ _ (@ps_if _ _ _ _ _ _ _ _ (@pw_or _ _ _ _ _ _ _ (@pt_not _ _ _ _ (@pt_val _ _ _ (@pe_call _ _ _ _ _ _ _ _ _ _ _ _ _ _ _ _ UW.ok hr1 (by rfl) UW.m UW.kp UW.b .nil pass0 (@pa_cons _ _ _ _ _ (@pv _ 1 _ _ (by rfl) (by first | exact Or.inl rfl | exact Or.inr (Or.inl rfl) | exact Or.inr (Or.inr rfl)) (by decide) (by decide)) pa_nil (by rfl)) (by decide) (by rfl) (by rfl)) (by intro _; rfl))) (@pw_or1 _ _ _ _ (@pt_not _ _ _ _ (@pt_chain _ _ _ _ _ _ _ _ _ _ _ _ op_le op_le pe_int (@pv _ 1 _ _ (by rfl) (by first | exact Or.inl rfl | exact Or.inr (Or.inl rfl) | exact Or.inr (Or.inr rfl)) (by decide) (by decide)) (@pe_glob _ _ (.int 16) _ _ (by rfl) @hM ⟨_, rfl⟩ (by decide)) (by with_unfolding_all rfl))))).pt (@pss_one _ _ _ (@ps_ret _ _ _ _ pe_bl)) pss_nil) (@pss_one _ _ _ (@ps_ret _ _ _ _ (@pe_and _ _ _ _ _ _ _ (@pe_call _ _ _ _ _ _ _ _ _ _ _ _ _ _ _ _ UA.ok hr (by rfl) UA.m UA.kp UA.b .nil pass0 (@pa_cons _ _ _ _ _ (@pv _ 1 _ _ (by rfl) (by first | exact Or.inl rfl | exact Or.inr (Or.inl rfl) | exact Or.inr (Or.inr rfl)) (by decide) (by decide)) (@pa_cons _ _ _ _ _ (@pv _ 2 _ _ (by rfl) (by first | exact Or.inl rfl | exact Or.inr (Or.inl rfl) | exact Or.inr (Or.inr rfl)) (by decide) (by decide)) pa_nil (by rfl)) (by rfl)) (by decide) (by rfl) (by rfl)) (@pe_one _ _ _ _ _ (@pe_call _ _ _ _ _ _ _ _ _ _ _ _ _ _ _ _ UE.ok hr (by rfl) UE.m UE.kp UE.b .nil pass0 (@pa_cons _ _ _ _ _ (@pv _ 1 _ _ (by rfl) (by first | exact Or.inl rfl | exact Or.inr (Or.inl rfl) | exact Or.inr (Or.inr rfl)) (by decide) (by decide)) (@pa_cons _ _ _ _ _ (@pv _ 3 _ _ (by rfl) (by first | exact Or.inl rfl | exact Or.inr (Or.inl rfl) | exact Or.inr (Or.inr rfl)) (by decide) (by decide)) pa_nil (by rfl)) (by rfl)) (by decide) (by rfl) (by rfl))))))))), ?_⟩
  have k := k' H (Same.refl H)
  refine ⟨_, rfl, x, 3, rfl, dx.any, _, rfl, ?_⟩
  cases z : rowOf H x with
  | none =>
    have e : rowV H 3 x = false := by unfold rowV; rw [z]
    have e2 : netV H x = false := by unfold netV; rw [z]
    rw [e]
    rw [e2] at k
    exact iteT k
  | some xs =>
    have e : rowV H 3 x = decide ((xs.length : Int) = 3) := by unfold rowV; rw [z]
    rw [e]
    obtain ⟨a, rfl, ha⟩ := rowOf_some z
    have ay := (dx.2 xs z).2
    match xs, z, ha, ay with
    | [], z, _, _ =>
      have e2 : netV H (.ref a) = false := by unfold netV; rw [z]
      rw [e2] at k; exact iteT k
    | [_], z, _, _ =>
      have e2 : netV H (.ref a) = false := by unfold netV; rw [z]
      rw [e2] at k; exact iteT k
    | [_, _], z, _, _ =>
      have e2 : netV H (.ref a) = false := by unfold netV; rw [z]
      rw [e2] at k; exact iteT k
    | [l, fo, en], z, ha, ay =>
      refine iteF ⟨_, rfl, a, _, rfl, SqT.of ha, rfl, _, _, rfl, _, _, rfl, _, _, rfl, rfl, ?_⟩
      refine ⟨_, rfl, l, rfl, (ay l (by simp)).any, _, rfl, ?_⟩
      cases l with
      | int i =>
        have e2 : netV H (.ref a) = ((decide (1 ≤ i) && decide (i ≤ 16)) && (forksV H i fo && lanesV H i en)) := by unfold netV; rw [z]
        rw [e2] at k k'
        refine iteF ⟨_, rfl, _, _, rfl, rfl, _, rfl, ?_⟩
        by_cases l1 : (1 : Int) ≤ i
        · rw [decide_eq_true l1] at k k' ⊢
          refine iteT ⟨_, _, rfl, rfl, _, rfl, ?_⟩
          by_cases l16 : i ≤ 16
          · rw [decide_eq_true l16] at k k' ⊢
            refine iteF ⟨_, rfl, _, rfl, fo, i, rfl, (ay fo (by simp)), fun H1 s1 => ⟨_, rfl, ?_⟩⟩
            cases q : forksV H i fo with
            | false => rw [q] at k'; exact iteF (k' H1 s1)
            | true =>
              rw [q] at k'
              refine iteT ⟨_, rfl, _, rfl, en, i, rfl, Deep.same s1 (ay en (by simp)).less, l1, l16, fun H2 s2 => ?_⟩
              rw [show lanesV H1 i en = lanesV H i en by unfold lanesV; rw [row_same s1 (ay en (by simp)).any]]
              exact k' H2 (s1.trans s2)
          · rw [decide_eq_false l16] at k ⊢
            exact iteT k
        · rw [decide_eq_false l1] at k ⊢
          exact iteF ⟨_, rfl, iteT k⟩
      | _ =>
        have e2 : netV H (.ref a) = false := by unfold netV; rw [z]
        rw [e2] at k; exact iteT (iteT k)
    | _ :: _ :: _ :: _ :: _, z, _, _ =>
      have e2 : netV H (.ref a) = false := by unfold netV; rw [z]
      rw [e2] at k
      rw [decide_eq_false (by simp only [List.length_cons]; lia)]
      exact iteT k
end
end K77
end
section
set_option maxHeartbeats 4000001
namespace L2
open PySem PySem.Spec PyProof.Rows
section
variable {κ : Type} [DecidableEq κ]
def valV (kvs : List (κ × V)) (k : κ) : Option V := (kvs.find? fun kv => decide (kv.1 = k)).map (·.2)
def putK (kvs : List (κ × V)) (k : κ) (v : V) : List (κ × V) :=
  if (kvs.any fun kv => decide (kv.1 = k)) = true then kvs.map (fun kv => if kv.1 = k then (kv.1, v) else kv) else kvs ++ [(k, v)]
theorem valV_pos {p : κ × V} {r : List (κ × V)} {k : κ} (e : p.1 = k) : valV (p :: r) k = some p.2 := by simp [valV, List.find?_cons, e]
theorem valV_neg {p : κ × V} {r : List (κ × V)} {k : κ} (e : ¬ p.1 = k) : valV (p :: r) k = valV r k := by simp [valV, List.find?_cons, e]
theorem valV_any (k : κ) : ∀ kvs : List (κ × V), (kvs.any fun kv => decide (kv.1 = k)) = (valV kvs k).isSome
  | [] => rfl
  | p :: r => by
    rw [List.any_cons]
    by_cases e : p.1 = k
    · simp only [valV_pos e, decide_eq_true e, Bool.true_or, Option.isSome_some]
    · rw [valV_neg e, decide_eq_false e, Bool.false_or]; exact valV_any k r
theorem length_putK (kvs : List (κ × V)) (k : κ) (v : V) : (putK kvs k v).length ≤ kvs.length + 1 := by
  unfold putK
  split
  · rw [List.length_map]; lia
  · rw [List.length_append, List.length_cons, List.length_nil]; lia
theorem RelO.isSome_eq {o : Option V} {u : Option Value} (r : RelO o u) : o.isSome = u.isSome := by
  cases o with
  | none => cases u with
    | none => rfl
    | some _ => exact (show False from r).elim
  | some _ => cases u with
    | none => exact (show False from r).elim
    | some _ => rfl
theorem KV.val {kvs : List (κ × V)} {vs : List (κ × Value)} (r : KV kvs vs) (k : κ) : RelO (valV kvs k) (valueAt vs k) := by
  unfold KV at r
  induction r with
  | nil => exact True.intro
  | @cons p q ps qs h t ih =>
    obtain ⟨h1, h2⟩ := h
    by_cases e : p.1 = k
    · have e' : q.1 = k := h1.symm.trans e
      have b : valueAt (q :: qs) k = some q.2 := by simp [valueAt, List.find?_cons, e']
      rw [valV_pos e, b]; exact h2
    · have e' : ¬ q.1 = k := fun z => e (h1.trans z)
      have b : valueAt (q :: qs) k = valueAt qs k := by simp [valueAt, List.find?_cons, e']
      rw [valV_neg e, b]; exact ih
theorem KV.any {kvs : List (κ × V)} {vs : List (κ × Value)} (r : KV kvs vs) (k : κ) : (kvs.any fun kv => decide (kv.1 = k)) = vs.any fun kv => decide (kv.1 = k) := by
  unfold KV at r
  induction r with
  | nil => rfl
  | cons h t ih => rw [List.any_cons, List.any_cons, ih, h.1]
theorem KV.repl {kvs : List (κ × V)} {vs : List (κ × Value)} (r : KV kvs vs) (k : κ) {y : V} {u : Value} (ry : RelV y u) :
    KV (kvs.map fun kv => if kv.1 = k then (kv.1, y) else kv) (vs.map fun kv => if kv.1 = k then (kv.1, u) else kv) := by
  unfold KV at r ⊢
  induction r with
  | nil => exact .nil
  | @cons p q ps qs h t ih =>
    rw [List.map_cons, List.map_cons]
    refine .cons ?_ ih
    obtain ⟨h1, h2⟩ := h
    by_cases e : p.1 = k
    · rw [if_pos e, if_pos (h1.symm.trans e)]; exact ⟨h1, ry⟩
    · rw [if_neg e, if_neg (fun z => e (h1.trans z))]; exact ⟨h1, h2⟩
theorem KV.put {kvs : List (κ × V)} {vs : List (κ × Value)} (r : KV kvs vs) (k : κ) {y : V} {u : Value} (ry : RelV y u) : KV (putK kvs k y) (stored vs k u) := by
  unfold putK stored
  rw [r.any k]
  by_cases e : (vs.any fun kv => decide (kv.1 = k)) = true
  · rw [if_pos e, if_pos e]; exact r.repl k ry
  · rw [if_neg e, if_neg e]; exact Paired.snoc r ⟨rfl, ry⟩
theorem KV.length {kvs : List (κ × V)} {vs : List (κ × Value)} (r : KV kvs vs) : kvs.length = vs.length := Paired.length r
end
theorem kV_is {P : Program} {w : World} {k : Key} {u : Value} (r : RelV (kV k) u) : (mixKind P w).is k u = true := by
  cases k with
  | inl i => obtain ⟨t, e⟩ := (show ∃ t, u = Value.int i t from r); subst e; exact mixKind_int P w i t
  | inr x => obtain ⟨t, e⟩ := (show ∃ t, u = Value.str x t from r); subst e; exact mixKind_str P w x t
theorem items_are {P : Program} {w : World} : ∀ {ks : List Key} {us : List Value}, Vals (ks.map kV) us → ItemsAre (mixKind P w) ks us
  | [], _, r => by rw [List.map_nil] at r; cases r; exact .nil
  | k :: ks, _, r => by
    rw [List.map_cons] at r
    cases r with
    | cons h t => exact .cons (kV_is h) (items_are t)
abbrev KT (H : Hp) : List (List Key × V) → List (List Key × Addr × Value) → Prop := Paired fun p q => p.1 = q.1 ∧ H q.2.1 = some (.tup (p.1.map kV)) ∧ RelV p.2 q.2.2
theorem KT.val {H : Hp} {kvs : List (List Key × V)} {xs : List (List Key × Addr × Value)} (r : KT H kvs xs) (k : List Key) : RelO (valV kvs k) ((atKey xs k).map (·.2)) := by
  induction r with
  | nil => exact True.intro
  | @cons p q ps qs h t ih =>
    obtain ⟨h1, _, h2⟩ := h
    by_cases e : p.1 = k
    · have e' : q.1 = k := h1.symm.trans e
      have b : atKey (q :: qs) k = some q.2 := by simp [atKey, List.find?_cons, e']
      rw [valV_pos e, b]; exact h2
    · have e' : ¬ q.1 = k := fun z => e (h1.trans z)
      have b : atKey (q :: qs) k = atKey qs k := by simp [atKey, List.find?_cons, e']
      rw [valV_neg e, b]; exact ih
theorem KT.repl {H : Hp} {kvs : List (List Key × V)} {xs : List (List Key × Addr × Value)} (r : KT H kvs xs) (k : List Key) {y : V} {u : Value} (ry : RelV y u) :
    KT H (kvs.map fun kv => if kv.1 = k then (kv.1, y) else kv) (xs.map (putAt k u)) := by
  induction r with
  | nil => exact .nil
  | @cons p q ps qs h t ih =>
    rw [List.map_cons, List.map_cons]
    refine .cons ?_ ih
    obtain ⟨h1, h2, h3⟩ := h
    unfold putAt
    by_cases e : p.1 = k
    · rw [if_pos e, if_pos (h1.symm.trans e)]; exact ⟨h1, h2, ry⟩
    · rw [if_neg e, if_neg (fun z => e (h1.trans z))]; exact ⟨h1, h2, h3⟩
theorem KT.put {H : Hp} {kvs : List (List Key × V)} {xs : List (List Key × Addr × Value)} (r : KT H kvs xs) (k : List Key) {b : Addr} {y : V} {u : Value} (hb : H b = some (.tup (k.map kV))) (ry : RelV y u) :
    KT H (putK kvs k y) (storedH xs k b u) := by
  have e : (kvs.any fun kv => decide (kv.1 = k)) = (atKey xs k).isSome := by
    rw [valV_any, (r.val k).isSome_eq, Option.isSome_map]
  unfold putK storedH
  rw [e]
  by_cases q : (atKey xs k).isSome = true
  · rw [if_pos q, if_pos q]; exact r.repl k ry
  · rw [if_neg q, if_neg q]; exact Paired.snoc r ⟨rfl, hb, ry⟩
theorem KT.keeps {H H' : Hp} {kvs : List (List Key × V)} {xs : List (List Key × Addr × Value)} (r : KT H kvs xs) (ht : ∀ b ys, H b = some (.tup ys) → H' b = some (.tup ys)) : KT H' kvs xs :=
  Paired.mapP r fun _ _ z => ⟨z.1, ht _ _ z.2.1, z.2.2⟩

section
variable {P : Program} {w : World} {H : Hp} {h : Heap} {a : Addr}
theorem rd_of {u : HO} (ok : HOk P w H h) (e : Rd H a u) : ObjOk P w H h a u := e.ok ok
theorem dk_rd {kvs : List (Key × V)} (ok : HOk P w H h) (e : Rd H a (.dK kvs)) : kvs.length ≤ sizeLine ∧ (a == sysModules) = false ∧ ∃ vs, KV kvs vs ∧ h.DictOf (mixKind P w) a vs :=
  show ObjOk P w H h a (.dK kvs) from rd_of ok e
theorem dk_of {kvs : List (Key × V)} (ok : HOk P w H h) (e : H a = some (.dK kvs)) : kvs.length ≤ sizeLine ∧ (a == sysModules) = false ∧ ∃ vs, KV kvs vs ∧ h.DictOf (mixKind P w) a vs := dk_rd ok (.inl e)
theorem key_of {ks : List Key} (ok : HOk P w H h) (e : H a = some (.tup (ks.map kV))) : (tupleKind (mixKind P w)).is h ks a := by
  obtain ⟨_, its, r, o, h1, h2, n, h3⟩ := (show ObjOk P w H h a (.tup (ks.map kV)) from ok a _ e)
  exact ⟨o, its.toArray, n, h1, h2, h3.1, by simpa using items_are r⟩
theorem dt_rd {kvs : List (List Key × V)} (ok : HOk P w H h) (e : Rd H a (.dT kvs)) : kvs.length ≤ sizeLine ∧ (a == sysModules) = false ∧
    ∃ xs, KT H kvs xs ∧ h.DictOfH (tupleKind (mixKind P w)) a xs := by
  obtain ⟨z, y, xs, r, o, es, ep, h1, h2, h3, h4, h5⟩ := (show ObjOk P w H h a (.dT kvs) from rd_of ok e)
  refine ⟨z, y, xs, r, o, es, ep, h1, h2, h3, h4, fun x hx => ?_, h5⟩
  have all : ∀ {l : List (List Key × V)} {m : List (List Key × Addr × Value)}, KT H l m → ∀ x ∈ m, (tupleKind (mixKind P w)).is h x.1 x.2.1 := by
    intro l m q
    induction q with
    | nil => intro x hx; exact nomatch hx
    | @cons p q ps qs hq t ih =>
      intro x hx
      rcases List.mem_cons.mp hx with e | hx
      · subst e
        exact key_of ok (by rw [← hq.1]; exact hq.2.1)
      · exact ih x hx
  exact all r x hx
theorem dt_of {kvs : List (List Key × V)} (ok : HOk P w H h) (e : H a = some (.dT kvs)) : kvs.length ≤ sizeLine ∧ (a == sysModules) = false ∧
    ∃ xs, KT H kvs xs ∧ h.DictOfH (tupleKind (mixKind P w)) a xs := dt_rd ok (.inl e)
end
def DGet (H : Hp) (a : Addr) (y : V) (r : Option V) : Prop :=
  (∃ kvs k, Rd H a (.dK kvs) ∧ y = kV k ∧ r = valV kvs k) ∨ ∃ kvs k b, Rd H a (.dT kvs) ∧ y = .ref b ∧ H b = some (.tup (k.map kV)) ∧ r = valV kvs k
def DPut (H : Hp) (a : Addr) (y v : V) (H' : Hp) : Prop :=
  (∃ kvs k, H a = some (.dK kvs) ∧ y = kV k ∧ kvs.length < sizeLine ∧ H' = upd H a (.dK (putK kvs k v))) ∨
  ∃ kvs k b, H a = some (.dT kvs) ∧ y = .ref b ∧ H b = some (.tup (k.map kV)) ∧ kvs.length < sizeLine ∧ H' = upd H a (.dT (putK kvs k v))
theorem DGet.k {H : Hp} {a : Addr} {kvs : List (Key × V)} {k : Key} (e : H a = some (.dK kvs)) : DGet H a (kV k) (valV kvs k) := .inl ⟨kvs, k, .inl e, rfl, rfl⟩
theorem DPut.k {H : Hp} {a : Addr} {kvs : List (Key × V)} {k : Key} {v : V} (e : H a = some (.dK kvs)) (hl : kvs.length < sizeLine) : DPut H a (kV k) v (upd H a (.dK (putK kvs k v))) := .inl ⟨kvs, k, e, rfl, hl, rfl⟩
section
variable {X : Cx} {pins : List (Addr × Obj)} {σ : St} {H : Hp} {s : Shared} {a : Addr} {y v : V} {u r : Value} {o : Option V} {A : Around} {E : Value → Shared → Prop}
theorem d_getItem {Q : Value → Shared → Prop} (hu : A.units + 1 < cLine) (I : Inv X pins σ H s) (g : DGet H a y (some v)) (ry : RelV y u) (h : ∀ w' s', Inv X pins σ H s' → RelV v w' → Q w' s') :
    wpAny (model X.prog X.w) A (getItem (.ref a) u) Q E s := by
  rcases g with ⟨kvs, k, e, ey, l⟩ | ⟨kvs, k, b, e, ey, eb, l⟩
  · subst ey
    obtain ⟨z, hd, vs, rel, dd⟩ := dk_rd I.hok e
    obtain ⟨w', hw, rw'⟩ := RelO.some_of (v := v) (o := valueAt vs k) (by rw [l]; exact rel.val k)
    exact wpAny_getItem_of (kV_is ry) dd.mapOf hw (h w' _ (I.tok _) rw')
  · subst ey
    cases (show u = Value.ref b from ry)
    obtain ⟨z, hd, xs, rel, dd⟩ := dt_rd I.hok e
    obtain ⟨w', hw, rw'⟩ := RelO.some_of (v := v) (o := (atKey xs k).map (·.2)) (by rw [l]; exact rel.val k)
    obtain ⟨p, hp, hp2⟩ := Option.map_eq_some_iff.mp hw
    refine wpAny_getItem_heap (tupleKind_room_in1 hu) (key_of I.hok eb) dd hp ?_
    rw [hp2]
    exact h w' _ (I.tok _) rw'
theorem d_write {h' : Heap} {t' : Nat} {ob : HO} (I : Inv X pins σ H s) (mu : Mut (H a)) (hs : Heap.SameBut a s.heap h') (he : ∃ q, h'.get? a = some q) (new : ObjOk X.prog X.w (upd H a ob) h' a ob) :
    Inv X pins σ (upd H a ob) { s with heap := h', toks := t' } :=
  I.write (x := a) (e := a) mu (.inl rfl) (fun b q hb z => (hs.2 b hb).trans z) he new
theorem dk_new {P : Program} {w : World} {H' : Hp} {h' : Heap} {kvs : List (Key × V)} {vs : List (Key × Value)} (z : kvs.length ≤ sizeLine) (hd : (a == sysModules) = false) (rel : KV kvs vs) (dd : h'.DictOf (mixKind P w) a vs) :
    ObjOk P w H' h' a (.dK kvs) := ⟨z, hd, vs, rel, dd⟩
theorem d_setItem {H' : Hp} {Q : Unit → Shared → Prop} (hu : A.units + 1 < cLine) (I : Inv X pins σ H s) (g : DPut H a y v H') (ry : RelV y u) (rv : RelV v r) (h : ∀ s', Inv X pins σ H' s' → Q () s') :
    wpAny (model X.prog X.w) A (setItem (.ref a) u r) Q E s := by
  rcases g with ⟨kvs, k, e, ey, l, eH⟩ | ⟨kvs, k, b, e, ey, eb, l, eH⟩
  · subst ey eH
    obtain ⟨z, hd, vs, rel, dd⟩ := dk_of I.hok e
    have hz : vs.length ≤ sizeLine := by rw [← rel.length]; exact z
    have hl : (putK kvs k v).length ≤ sizeLine := by have := length_putK kvs k v; lia
    refine wpAny_setItem_pairs (hsz := hz) (kV_is ry) dd fun h' dd' hs => h _ ?_
    have he : ∃ q, h'.get? a = some q := let ⟨q, _, _, hq, _⟩ := dd'; ⟨q, hq⟩
    exact d_write I (by rw [e]; exact True.intro) hs he (dk_new hl hd (rel.put k rv) dd')
  · subst ey eH
    cases (show u = Value.ref b from ry)
    obtain ⟨z, hd, xs, rel, dd⟩ := dt_of I.hok e
    have hz : xs.length ≤ sizeLine := by rw [← Paired.length rel]; exact z
    have hl : (putK kvs k v).length ≤ sizeLine := by have := length_putK kvs k v; lia
    refine wpAny_setItem_heap (hsz := hz) (tupleKind_room_in1 hu) (key_of I.hok eb) dd fun h' dd' hs => h _ ?_
    obtain ⟨q, es, ep, hq, h2, h3, h4, _, h5⟩ := dd'
    refine d_write I (by rw [e]; exact True.intro) hs ⟨q, hq⟩ ⟨hl, hd, _, (rel.put k eb rv).keeps fun c ys ec => ?_, q, es, ep, hq, h2, h3, h4, h5⟩
    rw [upd_ne (ne_of ec e (fun z => nomatch z))]
    exact ec
end

section
variable {X : Cx} {pins : List (Addr × Obj)} {σ : St} {H : Hp} {s : Shared} {a : Addr} {kvs : List (Key × V)} {k : Key} {u : Value} {A : Around} {E : Value → Shared → Prop}
end
def NoSl (i : Expr) : Prop := ∀ ov iv, subscripted i false ov iv = operate [ov, iv] (getItem ov iv)
theorem subD_of {prog : Program} {w : World} {A : Around} {E : Value → Shared → Prop} {s : Shared} {env : Env} {value slice : Expr} {pos : Pos} {T id : String} {Q : Value → Shared → Prop}
    (hl : typeLookup (.type T) "__getitem__" = pure (some (.builtin id))) (hs : NoSl slice)
    (h : wpAny (model prog w) A (eval value env) (fun o s₁ => wpAny (model prog w) A (eval slice env) (fun i s₂ => s₂.TypeIs o T ∧ wpAny (model prog w) A (getItem o i) Q E s₂) E s₁) E s) :
    wpAny (model prog w) A (eval (.Subscript value slice pos) env) Q E s := by
  refine Subscript_ (wpAny_mono h (fun o s₁ h₁ => wpAny_mono h₁ (fun i s₂ h₂ => ?_) fun _ _ x => x) fun _ _ x => x)
  obtain ⟨hT, h₂⟩ := h₂
  unfold subscriptTail
  refine wpAny_bind ?_
  rw [getitemInPython_of_ne hT.not_modules]
  refine wpAny_bind (wpAny_specialOf hT hl ?_)
  have fin : wpAny (model prog w) A (subscripted slice false o i) (fun r s₃ => wpAny (model prog w) A (letTemporaryGo value o r >>= fun _ => pure r) Q E s₃) E s₂ := by
    rw [hs o i]
    exact wpAny_operating (wpAny_mono h₂ (fun r s₃ h₃ => wpAny_bind (wpAny_letTemporaryGo (wpAny_pure h₃))) fun _ _ x => x)
  first
    | exact wpAny_pure (wpAny_bind fin)
    | exact wpAny_bind (wpAny_pure (wpAny_bind fin))
    | exact wpAny_bind fin

theorem dict_typeIs {X : Cx} {pins : List (Addr × Obj)} {σ : St} {H : Hp} {s : Shared} {a : Addr} {y : V} {o : Option V} (I : Inv X pins σ H s) (g : DGet H a y o) : s.TypeIs (.ref a) "dict" := by
  rcases g with ⟨kvs, k, e, _, _⟩ | ⟨kvs, k, b, e, _, _, _⟩
  · obtain ⟨_, _, vs, _, dd⟩ := dk_rd I.hok e
    exact dd.typeIs
  · obtain ⟨_, _, xs, _, dd⟩ := dt_rd I.hok e
    exact dd.typeIs
def tDGet (td ty : TE) : TE := fun σ H Q => td σ H fun x H1 => ty σ H1 fun y H2 => ∃ a v, x = .ref a ∧ DGet H2 a y (some v) ∧ Q v H2
def sDPut (td ty tv : TE) : TS := fun D σ H => tv σ H fun v H1 => td σ H1 fun x H2 => ty σ H2 fun y H3 => ∃ a H4, x = .ref a ∧ DPut H3 a y v H4 ∧ D.nx σ H4
section
variable {X : Cx} {o i e value : Expr} {pos pos' tpos : Pos} {td ty tv : TE}
theorem pe_dget (hu : X.A.units + 1 < cLine) (ho : PE X o td) (hi : PE X i ty) (hs : NoSl i) : PE X (.Subscript o i pos) (tDGet td ty) := by
  intro pins s σ H Q I h
  refine subD_of PySem.F.slot_dict_getitem.lookup hs (thn (ho pins s σ H _ I h) fun u s1 ⟨x, H1, I1, rx, q1⟩ => thn (hi pins s1 σ H1 _ I1 q1) fun iv s2 ⟨y, H2, I2, ry, a, v, ex, g, q2⟩ => ?_)
  subst ex
  obtain rfl : u = Value.ref a := rx
  exact ⟨dict_typeIs I2 g, d_getItem hu I2 g ry fun w' s3 I3 rw' => ⟨v, H2, I3, rw', q2⟩⟩
theorem ps_dput (hu : X.A.units + 1 < cLine) (ho : PE X o td) (hi : PE X i ty) (hv : PE X value tv) (hs : swapsWith value (some (.Subscript o i pos')) pos.line X.env = pure false) :
    PS X (.Assign [.Subscript o i pos'] value pos) (sDPut td ty tv) := by
  intro pins s σ H D I h
  refine wpAny_Assign_Subscript (thn (hv pins s σ H _ I h) fun r s1 ⟨v, H1, I1, rv, q1⟩ => thn (ho pins s1 σ H1 _ I1 q1) fun u s2 ⟨x, H2, I2, rx, q2⟩ => thn (hi pins s2 σ H2 _ I2 q2) fun iv s3 ⟨y, H3, I3, ry, a, H4, ex, g, q3⟩ => ?_) hs
  subst ex
  obtain rfl : u = Value.ref a := rx
  exact d_setItem hu I3 g ry rv fun s4 I4 => ⟨σ, H4, I4, q3⟩
end
section
variable {X : Cx} {pos : Pos}
end
def tPairs : List (TE × TE) → St → Hp → (List (V × V) → Hp → Prop) → Prop
  | [], _, H, Q => Q [] H
  | (tk, tv) :: r, σ, H, Q => tk σ H fun x H1 => tv σ H1 fun y H2 => tPairs r σ H2 fun ps H3 => Q ((x, y) :: ps) H3
abbrev VV : List (V × V) → List (Value × Value) → Prop := Paired fun p q => RelV p.1 q.1 ∧ RelV p.2 q.2
def PPs (X : Cx) (pos : Pos) (keys : List (Option Expr)) (values : List Expr) (trs : List (TE × TE)) : Prop :=
  ∀ (pins : List (Addr × Obj)) (s : Shared) (σ : St) (H : Hp) (Q : List (V × V) → Hp → Prop), Inv X pins σ H s → tPairs trs σ H Q →
    wpAny (model X.prog X.w) X.A (evalPairs (pairTrees keys values X.env pos)) (fun vs s' => ∃ ps H', Inv X pins σ H' s' ∧ VV ps vs ∧ Q ps H') X.xe s
theorem pps_nil {X : Cx} {pos : Pos} : PPs X pos [] [] [] := fun pins s σ H Q I h => pairTrees_nil_walk ⟨[], H, I, .nil, h⟩
theorem pps_cons {X : Cx} {pos : Pos} {k v : Expr} {ks : List (Option Expr)} {vs : List Expr} {tk tv : TE} {trs : List (TE × TE)} (hk : PE X k tk) (hv : PE X v tv) (hr : PPs X pos ks vs trs) :
    PPs X pos (some k :: ks) (v :: vs) ((tk, tv) :: trs) := fun pins s σ H Q I h =>
  pairTrees_cons_walk (thn (hk pins s σ H _ I h) fun u s1 ⟨x, H1, I1, rx, q1⟩ => thn (hv pins s1 σ H1 _ I1 q1) fun w2 s2 ⟨y, H2, I2, ry, q2⟩ =>
    thn (hr pins s2 σ H2 _ I2 q2) fun ws s3 ⟨ps, H3, I3, rel, q3⟩ => ⟨(x, y) :: ps, H3, I3, .cons ⟨rx, ry⟩ rel, q3⟩)

def mergeK (kvs more : List (Key × V)) : List (Key × V) := more.foldl (fun acc kv => putK acc kv.1 kv.2) kvs
theorem KV.merge : ∀ {more : List (Key × V)} {rs : List (Key × Value)} {kvs : List (Key × V)} {vs : List (Key × Value)}, KV more rs → KV kvs vs → KV (mergeK kvs more) (merged vs rs) := by
  intro more rs kvs vs r
  unfold KV at r
  induction r generalizing kvs vs with
  | nil => intro q; exact q
  | @cons p q ps qs h t ih =>
    intro r0
    have e : KV (putK kvs p.1 p.2) (stored vs q.1 q.2) := by
      have := r0.put p.1 h.2
      rw [← h.1]; exact this
    exact ih e
theorem length_mergeK : ∀ (more kvs : List (Key × V)), (mergeK kvs more).length ≤ kvs.length + more.length
  | [], kvs => by show kvs.length ≤ kvs.length + 0; lia
  | p :: r, kvs => by
    have h1 := length_mergeK r (putK kvs p.1 p.2)
    have h2 := length_putK kvs p.1 p.2
    show (mergeK (putK kvs p.1 p.2) r).length ≤ _
    rw [List.length_cons]; lia
theorem carries_of {P : Program} {w : World} : ∀ {kvs : List (Key × V)} {ws : List (Value × Value)}, VV (kvs.map fun kv => (kV kv.1, kv.2)) ws → ∃ rs, Carries (mixKind P w) ws rs ∧ KV kvs rs
  | [], _, r => by rw [List.map_nil] at r; cases r; exact ⟨[], True.intro, .nil⟩
  | p :: kvs, _, r => by
    rw [List.map_cons] at r
    cases r with
    | @cons a b as bs h t =>
      obtain ⟨rs, c, q⟩ := carries_of (P := P) (w := w) t
      obtain ⟨b1, b2⟩ := b
      exact ⟨(p.1, b2) :: rs, ⟨kV_is h.1, rfl, c⟩, .cons ⟨rfl, h.2⟩ q⟩
def tDisp (trs : List (TE × TE)) : TE := fun σ H Q => ∀ p, H p = none → tPairs trs σ (upd H p (.dK [])) fun ps H2 => H2 p = some (.dK []) ∧ ∃ kvs : List (Key × V), ps = kvs.map (fun kv => (kV kv.1, kv.2)) ∧ kvs.length ≤ 15 ∧ Q (.ref p) (upd H2 p (.dK (mergeK [] kvs)))
theorem pe_disp {X : Cx} {pos : Pos} {keys : List (Option Expr)} {values : List Expr} {trs : List (TE × TE)} (h : PPs X pos keys values trs) (hall : keys.all (·.isSome) = true) (hl : keys.length = values.length) (h0 : keys ≠ [])
    (h15 : keys.length ≤ 15) : PE X (.Dict keys values pos) (tDisp trs) := by
  intro pins s σ H Q I q
  have hn := I.hok.fresh (Nat.le_refl s.heap.objs.size)
  have I1 := I.laid (a := s.heap.objs.size) (o := .dK []) (h' := s.heap.push { cls := .type "dict", data := .dict #[] }) (t' := s.toks) (fun _ _ q => Heap.get?_push_of_some _ q) (Nat.le_refl _) (dk_empty s.heap I.big)
  refine wpAny_Dict_walk (knd := mixKind X.prog X.w) hall hl h0 h15 (thn (h pins _ σ _ _ I1 (q _ hn)) fun ws s2 ⟨ps, H2, I2, rel, e, kvs, ep, lk, q2⟩ => ?_)
  subst ep
  obtain ⟨rs, c, rk⟩ := carries_of (P := X.prog) (w := X.w) rel
  obtain ⟨z, hd, vs0, r0, dd⟩ := dk_of I2.hok e
  cases r0
  refine ⟨rs, c, dd, fun h' dd' hs => ⟨.ref s.heap.objs.size, _, ?_, rfl, q2⟩⟩
  have hz : (mergeK [] kvs).length ≤ sizeLine := by
    have h1 := length_mergeK kvs []
    rw [List.length_nil] at h1
    rw [sizeLine_eq]; lia
  have he : ∃ q, h'.get? s.heap.objs.size = some q := let ⟨q, _, _, hq, _⟩ := dd'; ⟨q, hq⟩
  exact d_write I2 (by rw [e]; exact True.intro) hs he (dk_new hz hd (rk.merge .nil) dd')
structure M2 (X : Cx) (o : Expr) (m : Str) (apos : Pos) (e f : Expr) (cpos : Pos) : Prop where
  base : attributeBase o m X.env (eval o X.env) = eval o X.env
  few : ((backTo cpos (starEach [e, f] X.env)).all (fun x => !x.1) && (backToKw cpos (keywordEach [] X.env)).all (fun x => x.1.isSome)
    && decide (([e, f] : List Expr).length + ([] : List Keyword).length + (if ([] : List Keyword).isEmpty then 0 else 1) < 30)) = true
  line : (apos.endLine == cpos.line) = true
  trees : backTo cpos (starEach [e, f] X.env) = [(false, eval e X.env), (false, eval f X.env)]

section
variable {X : Cx} {pins : List (Addr × Obj)} {σ : St} {H : Hp} {s : Shared} {a : Addr} {y d : V} {u r : Value} {o : Option V} {A : Around} {E : Value → Shared → Prop}
end

section
variable {X : Cx} {o e f : Expr} {apos cpos : Pos} {td ty tx : TE}
end
section
variable {X : Cx} {pins : List (Addr × Obj)} {σ : St} {H : Hp} {s : Shared} {a : Addr} {kvs : List (Key × V)} {A : Around} {E : Value → Shared → Prop}
end


section
variable {X : Cx} {pins : List (Addr × Obj)} {σ : St} {H : Hp} {s : Shared} {a : Addr} {y : V} {u : Value} {A : Around} {E : Value → Shared → Prop}
end
end L2
end
section
set_option maxHeartbeats 4000001
namespace Bn
open PySem L2 Own
structure Grp where
  many : Int
  lane : Nat
  fork : Nat
end Bn
end
section
set_option maxHeartbeats 4000001
namespace Bn
open PySem L2 Own
def part (m : Int) (lane k : Nat) : List Grp := if m = 0 then [] else [⟨m, lane, k⟩]
end Bn
end
section
set_option maxHeartbeats 4000001
namespace Bn
open PySem L2 Own
end Bn
end
section
set_option maxHeartbeats 4000001
namespace Bn
open PySem L2 Own
end Bn
end
section
set_option maxHeartbeats 4000001
namespace L2
open PySem PySem.Spec PyProof.Rows Own
section
variable {prog : Program} {w : World} {A : Around} {E : Value → Shared → Prop} {s : Shared}
end
section
variable {X : Cx}
end
section
variable {X : Cx}
end
end L2
end
section
set_option maxHeartbeats 4000001
namespace L2
open PySem PySem.Spec PyProof.Rows Own
section
variable {X : Cx}
end
end L2
end
section
set_option maxHeartbeats 4000001
namespace L2
open PySem
theorem Room.u1 {k : Nat} {A : Around} (r : Room k A) : A.units + 1 < cLine := by have := r.un; lia
end L2
namespace Bn
open PySem L2 Own
section
variable {H0 H H' : Hp} {l d lt lg lo : Addr} {qa : List Addr} {ts os : List Int} {gs : List Grp}
end
inductive Dd
  | put (lane : Nat) (many : Int)
  | step (place : Nat)
  | join (i j : Nat)
end Bn
end
section
set_option maxHeartbeats 4000001
namespace Bn
open PySem L2 Own
section
variable {H0 H : Hp} {l d lt lg lo : Addr} {qa : List Addr} {ts os : List Int} {gs : List Grp}
end
end Bn
end
section
set_option maxHeartbeats 4000001
namespace L2
open PySem Own
section
variable {X : Cx}
end
end L2
end
section
set_option maxHeartbeats 4000001
namespace L2
open PySem
theorem seq_lateR {t u : TS} {D : Ends} {σ : St} {H : Hp} (h : ∀ D' : Ends, (∀ σ H, u D σ H → D'.nx σ H) → (∀ v H, D.rt v H → D'.rt v H) → t D' σ H) : tSeq t u D σ H := h { D with nx := u D } (fun _ _ x => x) fun _ _ x => x
end L2
end
section
set_option maxHeartbeats 4000001
namespace L2
open PySem Own PyProof.Rows PySem.Spec
section
variable {X : Cx}
end
end L2
namespace Bn
open PySem L2 Own
abbrev Sn := List Int × List Grp × List Int
abbrev Sn.none (N : Nt) : Sn := (List.replicate N.forks.length 0, [], List.replicate N.lanes 0)
section
variable {H0 H H' : Hp} {l d lt lg lo : Addr} {qa qa' : List Addr} {ts os ts' os' : List Int} {gs gs' : List Grp}
end
end Bn
end
section
set_option maxHeartbeats 4000001
namespace L2
open PySem PySem.Spec PyProof.Rows
def FlyT (e T : Addr) (cls : Value) (dx : Option Addr) (fl : Value) (h : Heap) : Prop :=
  ∃ oe vs oT ts, h.get? e = some oe ∧ (oe.cls = cls ∧ oe.dict = dx) ∧ oe.data = .fields vs ∧ vs[1]? = some (.ref T) ∧ T ≠ e ∧ h.get? T = some oT ∧ oT.data = .fields ts ∧ ts[3]? = some fl
structure Stp (fs : List Addr) (Z : Addr → Prop) (h h' : Heap) : Prop where
  keep : ∀ b o, h.get? b = some o → ¬ Z b → b ∉ fs → h'.get? b = some o
  slot : ∀ b o, h.get? b = some o → ¬ Z b → ∃ sl, h'.get? b = some { o with slots := sl }
  there : ∀ b o, h.get? b = some o → ∃ o', h'.get? b = some o'
theorem Stp.trans {fs : List Addr} {Z : Addr → Prop} {h h1 h2 : Heap} (x : Stp fs Z h h1) (y : Stp fs Z h1 h2) : Stp fs Z h h2 :=
  ⟨fun b o e z f => y.keep b o (x.keep b o e z f) z f, fun b o e z => by
    obtain ⟨sl, q⟩ := x.slot b o e z
    obtain ⟨sl', q'⟩ := y.slot b _ q z
    exact ⟨sl', q'⟩, fun b o e => by
    obtain ⟨o1, q⟩ := x.there b o e
    exact y.there b o1 q⟩
theorem Stp.mono {fs fs' : List Addr} {Z Z' : Addr → Prop} {h h' : Heap} (x : Stp fs Z h h') (hf : ∀ b ∈ fs, b ∈ fs') (hz : ∀ b o, h.get? b = some o → Z b → Z' b) : Stp fs' Z' h h' :=
  ⟨fun b o e z f => x.keep b o e (fun q => z (hz b o e q)) fun q => f (hf b q), fun b o e z => x.slot b o e fun q => z (hz b o e q), x.there⟩
theorem Stp.frames {fs : List Addr} {Z : Addr → Prop} {h h' B : Heap} {l : List Env} (x : Stp fs Z h h') (hz : ∀ b o, h.get? b = some o → Z b → ∃ vs, o.data = .fields vs) (hl : h.FunFrames B l) : h'.FunFrames B l :=
  hl.of_keeps fun b o e nf => by
    obtain ⟨sl, q⟩ := x.slot b o e fun z => by
      obtain ⟨vs, d⟩ := hz b o e z
      exact nf vs d
    exact ⟨_, q, rfl⟩
theorem FlyT.fields {e T : Addr} {cls : Value} {dx : Option Addr} {fl : Value} {h : Heap} (x : FlyT e T cls dx fl h) : ∀ b o, h.get? b = some o → (b = e ∨ b = T) → ∃ vs, o.data = .fields vs := by
  obtain ⟨oe, vs, oT, ts, he, _, hd, _, _, hT, hdT, _⟩ := x
  rintro b o q (rfl | rfl)
  · rw [he] at q; exact ⟨vs, Option.some.inj q ▸ hd⟩
  · rw [hT] at q; exact ⟨ts, Option.some.inj q ▸ hdT⟩
theorem put_at {h : Heap} {a : Addr} {c : Value} {d : Option Addr} {vs : Array Value} {sl : Array (Option Value)} (i : Nat) (x : Value) (q : h.get? a = some ⟨c, d, .fields vs, sl⟩) : (h.update a (Obj.mapFields (·.setIfInBounds i x))).get? a = some ⟨c, d, .fields (vs.setIfInBounds i x), sl⟩ := Heap.get?_update_self _ q rfl
theorem put_ne {h : Heap} {a b : Addr} {f : Obj → Obj} (n : b ≠ a) : (h.update a f).get? b = h.get? b := Heap.get?_update_other _ _ (Ne.symm n)
theorem put_stp {h : Heap} {a : Addr} {o : Obj} {c : Value} {d : Option Addr} {vs : Array Value} {sl : Array (Option Value)} (i : Nat) (x : Value) (q : h.get? a = some ⟨c, d, .fields vs, sl⟩) : Stp [] (fun b => b = a) h (h.update a (Obj.mapFields (·.setIfInBounds i x))) :=
  ⟨fun b o e z _ => (put_ne z).trans e, fun b o e z => ⟨o.slots, (put_ne z).trans e⟩, fun b o e => by
    by_cases z : b = a
    · rw [z]; exact ⟨_, put_at i x q⟩
    · exact ⟨o, (put_ne z).trans e⟩⟩
theorem land {M : Model} {A : Around} {E : Value → Shared → Prop} {s : Shared} {e T : Addr} {cls fl : Value} {dx : Option Addr} {Q : Unit → Shared → Prop} (x : FlyT e T cls dx fl s.heap)
    (h : ∀ h', Stp [] (fun b => b = T) s.heap h' → FlyT e T cls dx .none h' → Q () { s with heap := h' }) : wpAny M A (setFlight (.ref e) none) Q E s := by
  obtain ⟨oe, vs, ⟨cT, dT, _, slT⟩, ts, he, hc, hd, h1, ne, hT, rfl, h3⟩ := x
  have sz : 3 < ts.size := (Array.getElem?_eq_some_iff.mp h3).1
  refine wpAny_setFlight_none he hd h1 hT rfl sz (h _ (put_stp (o := oe) 3 .none hT) ⟨oe, vs, _, ts.setIfInBounds 3 .none, (put_ne (Ne.symm ne)).trans he, hc, hd, h1, ne, put_at 3 .none hT, rfl, ?_⟩)
  rw [Array.getElem?_setIfInBounds_self, if_pos sz]
theorem entry_new {M : Model} {A : Around} {E : Value → Shared → Prop} {s : Shared} {B : Heap} {env : Env} {outer : List Env} {L e : Addr} {c : Value} {d : Option Addr} {vs : Array Value} {sl : Array (Option Value)} {head : Value} {hn : Bool} {Q : Unit → Shared → Prop}
    (hfr : A.frames = some (env :: outer)) (hl : s.heap.FunFrames B (env :: outer)) (hf : env.frame = some L) (he : s.heap.get? e = some ⟨c, d, .fields vs, sl⟩) (hz : 1 < vs.size)
    (h : ∀ h' T, Stp (frs (env :: outer)) (fun b => b = e) s.heap h' → s.heap.objs.size ≤ T → FlyT e T c d (rawInt L) h' → Q () { s with heap := h' }) :
    wpAny M A (do let a ← frameOf env; let pl ← entryPlaceOf L hn; let b ← EntryCells.newEntry head a .none (rawInt L) .none pl; setField (.ref e) 1 b) Q E s := by
  have nfr : e ∉ frs (env :: outer) := fun z => by
    obtain ⟨_, o, ho, nf⟩ := hl.mem z
    rw [he] at ho
    cases ho
    exact nf vs rfl
  refine wpAny_bind (wpAny_frameOf_fun hfr hl hf fun h1 ⟨z1, k1, sl1⟩ => wpAny_bind (wpAny_entryPlaceOf fun pl hpl => ?_))
  have he1 : h1.get? e = some ⟨c, d, .fields vs, sl⟩ := (k1 e nfr).trans he
  have lt : e < h1.objs.size := Heap.lt_size he1
  refine wpAny_bind ?_
  refine (show wpAny M A (newFields _ _) _ _ _ from wpAny_newObj_type ?_ ?_)
  · have he2 := Heap.get?_push_of_some { cls := .type "traceback", dict := none, data := .fields ([head, .ref L, .none, rawInt L, .none] ++ if pl.isEmpty = true then List.replicate 6 .none else pl).toArray } he1
    have hT2 : (h1.push { cls := .type "traceback", dict := none, data := .fields ([head, .ref L, .none, rawInt L, .none] ++ if pl.isEmpty = true then List.replicate 6 .none else pl).toArray }).get? h1.objs.size = _ := Heap.get?_push_size _ rfl
    refine wpAny_setField he2 rfl hz (h _ h1.objs.size ?_ (by rw [z1]; exact Nat.le_refl _) ⟨_, _, _, _, put_at 1 _ he2, ⟨rfl, rfl⟩, rfl, ?_, Ne.symm (Nat.ne_of_lt lt), (put_ne (Ne.symm (Nat.ne_of_lt lt))).trans hT2, rfl, ?_⟩)
    · refine Stp.trans (h1 := h1.push _) ⟨fun b o q z nf => Heap.get?_push_of_some _ ((k1 b nf).trans q), fun b o q z => ?_, fun b o q => ?_⟩ ((put_stp (o := ⟨c, d, .fields vs, sl⟩) 1 _ he2).mono (fun _ z => nomatch z) fun _ _ _ z => z)
      · obtain ⟨s', q'⟩ := sl1 b o q
        exact ⟨s', Heap.get?_push_of_some _ q'⟩
      · obtain ⟨s', q'⟩ := sl1 b o q
        exact ⟨_, Heap.get?_push_of_some _ q'⟩
    · rw [Array.getElem?_setIfInBounds_self, if_pos hz]
    · simp
  · show (_ : Array Value).size ≤ sizeLine + 2
    rcases hpl with rfl | ⟨_, _, _, _, _, _, _, rfl⟩ <;> (rw [sizeLine_eq]; show (11 : Nat) ≤ 16777218; decide)
theorem note_made {M : Model} {A : Around} {E : Value → Shared → Prop} {s : Shared} {B : Heap} {env : Env} {outer : List Env} {L e : Addr} {oe : Obj} {vs : Array Value} {Q : Unit → Shared → Prop}
    (hfr : A.frames = some (env :: outer)) (hl : s.heap.FunFrames B (env :: outer)) (hf : env.frame = some L) (he : s.heap.get? e = some oe) (hd : oe.data = .fields vs) (h1 : vs[1]? = some .none)
    (h : ∀ h' T, Stp (frs (env :: outer)) (fun b => b = e) s.heap h' → s.heap.objs.size ≤ T → FlyT e T oe.cls oe.dict (rawInt L) h' → Q () { s with heap := h' }) : wpAny M A (noteFrame (.ref e) env) Q E s := by
  obtain ⟨c, d, _, sl⟩ := oe
  obtain rfl := hd
  have hz : 1 < vs.size := (Array.getElem?_eq_some_iff.mp h1).1
  unfold noteFrame
  rw [hf]
  refine wpAny_bind (wpAny_field he rfl h1 ?_)
  exact entry_new hfr hl hf he hz h
theorem note_fly {M : Model} {A : Around} {E : Value → Shared → Prop} {s : Shared} {B : Heap} {env : Env} {outer : List Env} {L e T0 : Addr} {cls : Value} {dx : Option Addr} {Q : Unit → Shared → Prop}
    (hfr : A.frames = some (env :: outer)) (hl : s.heap.FunFrames B (env :: outer)) (hf : env.frame = some L) (x : FlyT e T0 cls dx .none s.heap)
    (h : ∀ h' T, Stp (frs (env :: outer)) (fun b => b = e ∨ b = T0) s.heap h' → s.heap.objs.size ≤ T → FlyT e T cls dx (rawInt L) h' → Q () { s with heap := h' }) : wpAny M A (noteFrame (.ref e) env) Q E s := by
  have xf := x.fields
  obtain ⟨⟨ce, de, _, sle⟩, vs, ⟨cT, dT, _, slT⟩, ts, he, ⟨rfl, rfl⟩, rfl, h1, ne, hT, rfl, h3⟩ := x
  have hz : 1 < vs.size := (Array.getElem?_eq_some_iff.mp h1).1
  have sz : 3 < ts.size := (Array.getElem?_eq_some_iff.mp h3).1
  have st : Stp [] (fun b => b = T0) s.heap (s.heap.update T0 (Obj.mapFields (·.setIfInBounds 3 .none))) := put_stp (o := ⟨ce, de, .fields vs, sle⟩) 3 .none hT
  unfold noteFrame
  rw [hf]
  refine wpAny_bind (wpAny_field he rfl h1 ?_)
  show wpAny M A (if (Value.ref T0 != Value.none) = true then _ else _) Q E s
  rw [if_pos (by rfl)]
  refine wpAny_bind (wpAny_field hT rfl h3 ?_)
  show wpAny M A (if (Value.none == rawInt L) = true then _ else _) Q E s
  rw [if_neg (by intro z; cases z)]
  refine wpAny_bind (wpAny_setField hT rfl sz ?_)
  have he2 := (put_ne (f := Obj.mapFields (·.setIfInBounds 3 .none)) (Ne.symm ne)).trans he
  have hl2 := st.frames (fun b o q z => xf b o q (.inr z)) hl
  refine entry_new (s := { s with heap := s.heap.update T0 (Obj.mapFields (·.setIfInBounds 3 .none)) }) hfr hl2 hf he2 hz fun h' T st2 lT fl => h h' T ?_ ?_ fl
  · exact (st.mono (fun _ z => nomatch z) fun _ _ _ z => .inr z).trans (st2.mono (fun _ z => z) fun _ _ _ z => .inl z)
  · rw [Heap.size_update] at lT; exact lT
end L2
end
section
set_option maxHeartbeats 4000001
namespace L2
open PySem PySem.Spec PyProof.Rows
def CX1 (P : Program) (w : World) : CXT := fun outer H s E e s' => ∃ (ea T : Addr) (cls : Value) (dx : Option Addr) (H' : Hp), e = .ref ea ∧ s'.os = s.os ∧ AllBare s'.gens ∧ Un (frs outer) [] H H' s.heap s'.heap ∧ HOk P w H' s'.heap ∧
  FlyT ea T cls dx .none s'.heap ∧ (s.heap.get? ea = none ∧ s.heap.get? T = none) ∧ (H' ea = none ∧ H' T = none) ∧ E cls dx H'
theorem Un.stp {fs fs' : List Addr} {Z : Addr → Prop} {H0 H : Hp} {g h h' : Heap} (u : Un fs [] H0 H g h) (x : Stp fs' Z h h') (hz : ∀ b, Z b → g.get? b = none) (hf : ∀ b o, g.get? b = some o → b ∈ fs' → b ∈ fs) : Un fs [] H0 H g h' := by
  have nz : ∀ b o, g.get? b = some o → ¬ Z b := fun b o q z => by rw [hz b z] at q; cases q
  refine ⟨fun b o q n nf _ => x.keep b o (u.keep b o q n nf (by simp)) (nz b o q) fun z => nf (hf b o q z), fun b o q n _ _ => ?_, u.free, fun b o q ne => ?_, u.tups, u.frzs, u.tbls⟩
  · obtain ⟨sl, q'⟩ := u.any q n (by simp)
    obtain ⟨sl', q2⟩ := x.slot b _ q' (nz b o q)
    exact ⟨sl', q2⟩
  · obtain ⟨o', q'⟩ := u.there b o q ne
    exact x.there b o' q'
theorem HOk.stp {P : Program} {w : World} {fs : List Addr} {Z : Addr → Prop} {H : Hp} {h h' : Heap} (ok : HOk P w H h) (x : Stp fs Z h h') (hz : ∀ b, Z b → H b = none) (hf : ∀ b ∈ fs, H b = none) : HOk P w H h' := fun a o e => by
  have tr : ∀ b, (b = a ∨ H b = some (.own a)) → ∃ u, H b = some u := by
    rintro b (rfl | q)
    · exact ⟨o, e⟩
    · exact ⟨_, q⟩
  refine (ok a o e).stay (fun b u q r => ?_) (fun _ q => q) fun _ _ q => q
  obtain ⟨u', hu⟩ := tr b q
  exact x.keep b u r (fun z => by rw [hz b z] at hu; cases hu) fun z => by rw [hf b z] at hu; cases hu
section
variable {P : Program} {w : World} {K : PySem.W.Frag} {mg : Str → Option Value} {base : Heap} {N : List Str} {qual : Str} {scope : Scope} {f : Addr} {cd : Value} {A : Around} {outer : List Env} {s : Shared} {H : Hp} {E : XK} {pins : List (Addr × Obj)} {σ : St}
theorem cx_frame {b : Addr} {o : Obj} {H1 : Hp} {s1 : Shared} (I : Inv (cxOf (CX1 P w) P w K mg base N qual scope f cd A outer s H E) pins σ H1 s1) (q : s.heap.get? b = some o) (hb : b ∈ frs (cxOf (CX1 P w) P w K mg base N qual scope f cd A outer s H E).stack) : b ∈ frs outer := by
  rcases List.mem_cons.mp (I.stkSub b hb) with z | z
  · exact absurd (Nat.lt_of_lt_of_le (Heap.lt_size q) I.ok.above) (by rw [z]; exact Nat.lt_irrefl _)
  · exact z
theorem older {H1 : Hp} {s1 : Shared} {T : Addr} (I : Inv (cxOf (CX1 P w) P w K mg base N qual scope f cd A outer s H E) pins σ H1 s1) (l : s1.heap.objs.size ≤ T) : s.heap.get? T = none :=
  Heap.get?_none_of_le (Nat.le_trans I.sz l)
theorem xe_made {H1 : Hp} {s1 : Shared} {ea : Addr} {oe : Obj} {vs : Array Value} (I : Inv (cxOf (CX1 P w) P w K mg base N qual scope f cd A outer s H E) pins σ H1 s1) (he : s1.heap.get? ea = some oe) (hd : oe.data = .fields vs) (h1 : vs[1]? = some .none)
    (hn : s.heap.get? ea = none) (hne : H1 ea = none) (hE : E oe.cls oe.dict H1) : (cxOf (CX1 P w) P w K mg base N qual scope f cd A outer s H E).xe (.ref ea) s1 := by
  show wpAny _ _ (leaving _ _) _ _ _
  unfold leaving
  refine wpAny_bind (note_made (B := base) I.ok.frames I.stack rfl he hd h1 fun h' T st lT fl => ?_)
  refine land fl fun h2 st2 fl2 => ?_
  have z1 : ∀ b, b = ea → s.heap.get? b = none := fun b q => by rw [q]; exact hn
  have z2 : ∀ b, b = T → s.heap.get? b = none := fun b q => by rw [q]; exact older I lT
  refine ⟨ea, T, _, _, H1, rfl, I.os, I.bare, ((show Un (frs outer) [] H H1 s.heap s1.heap from I.base).stp st z1 fun b o q hb => cx_frame I q hb).stp st2 z2 (fun _ _ _ z => nomatch z), ?_, fl2, ⟨hn, z2 T rfl⟩, ⟨hne, I.hok.fresh lT⟩, hE⟩
  exact HOk.stp (HOk.stp (P := P) (w := w) I.hok st (fun b q => by rw [q]; exact hne) fun b hb => I.stkFree b hb) st2 (fun b q => by rw [q]; exact I.hok.fresh lT) fun _ z => nomatch z
theorem Fun.ok1 {x qual : Str} {st : Stmt} {f : Addr} {fd : FuncData} {N ps : List Str} {k : Nat} {sp : Sp} (F : Fun K x qual st f fd) (S : FnScope N ps (defScope st)) (len : ∀ vs H Q E, sp vs H Q E → vs.length = ps.length)
    (hb : ∀ (cdv : Value) (A : Around) (outer : List Env) (s : Shared) (H : Hp) (vs : List V) (Q : VK) (E : XK), Room k (A.deeper (envOfC qual (defScope st) s.heap.objs.size f cdv)) → sp vs H Q E →
      ∃ t, PSs (cxOf (CX1 P w) P w K mg base N qual (defScope st) f cdv A outer s H E) (defBody st) t ∧ t { nx := fun _ H' => Q .non H', rt := Q } (start N vs) H) : FnOk P w K mg base (CX1 P w) (k + 1) f fd ps sp := by
  obtain ⟨oc, od, kV, doc, pm, an, cdv, ct, osl, rfl, lk, hcd⟩ := F.ex
  exact fn_of lk hcd S len fun A outer s H vs Q E hr hsp => hb cdv A outer s H vs Q E hr hsp
end
end L2
end
section
set_option maxHeartbeats 4000001
namespace L2
open PySem PySem.Spec PyProof.Rows
section
variable {X : Cx} {pins : List (Addr × Obj)} {σ : St} {H : Hp} {s : Shared}
theorem Inv.relocal {σ' : St} {h' : Heap} {m' : Str → Option Value} {t' : Nat} (I : Inv X pins σ H s) (hs : Heap.SameBut X.env.locals s.heap h') (hn' : h'.Ns X.env.locals m') (hl : σ'.length = σ.length)
    (q : ∀ (j : Nat) (y : Str) (v : V), X.N[j]? = some y → σ'[j]? = some (some v) → Vis X.env.scope y → ∃ u, RelV v u ∧ Look X.env h' m' y u) : Inv X pins σ' H { s with heap := h', toks := t' } := by
  have cne := I.cne
  have old : ∀ b o, X.s₀.heap.get? b = some o → b ≠ X.env.locals := fun b o e => Nat.ne_of_lt (Nat.lt_of_lt_of_le (Heap.lt_size e) I.ok.above)
  refine ⟨I.ok, I.os, I.bare, ⟨fun b o e n hb hx => ?_, fun b o e n hb hx => ?_, I.base.free, fun b o e hx => ?_, I.base.tups, I.base.frzs, I.base.tbls⟩, ⟨_, hn', q⟩, fun y c e => ?_, I.free, I.freeC, fun p hp => ?_, I.hok.sameBut I.free hs, hl.trans I.len⟩
  · exact (hs.2 b (old b o e)).trans (I.base.keep b o e n hb hx)
  · obtain ⟨sl, e1⟩ := I.base.slot b o e n hb hx
    exact ⟨sl, (hs.2 b (old b o e)).trans e1⟩
  · obtain ⟨o', e1⟩ := I.base.there b o e hx
    exact ⟨o', (hs.2 b (old b o e)).trans e1⟩
  · obtain ⟨v, z⟩ := I.cell y c e
    exact ⟨v, z.sameBut hs (cne y c e)⟩
  · obtain ⟨e, n, ne, nf, d⟩ := I.pin p hp
    exact ⟨(hs.2 p.1 ne).trans e, n, ne, nf, d⟩
theorem Look.sameBut {h h' : Heap} {m m' : Str → Option Value} {y : Str} {u : Value} {L : Addr} {env : Env} (l : Look env h m y u) (hs : Heap.SameBut L h h') (hm : m' y = m y) (cne : ∀ c, env.cells.lookup y = some c → c ≠ L) : Look env h' m' y u := by
  rcases l with ⟨k, e⟩ | ⟨k, c, e, z⟩
  · exact .inl ⟨k, hm.trans e⟩
  · exact .inr ⟨k, c, e, z.sameBut hs (cne c e)⟩
theorem name_goes {M : Model} {A : Around} {E : Value → Shared → Prop} {i : Nat} {n : Str} {pos : Pos} {Q : Unit → Shared → Prop} (I : Inv X pins σ H s) (hN : X.N.Nodup) (hi : X.N[i]? = some n) (hl : X.env.scope.names.lookup n = some .local)
    (h : ∀ s', Inv X pins (σ.set i none) H s' → Q () s') : wpAny M A (do bindName X.env n .none; unbindBehindTheSuite X.env n pos) Q E s := by
  have il : i < σ.length := by rw [I.len]; exact (List.getElem?_eq_some_iff.mp hi).1
  refine wpAny_bind (wpAny_bindName (store_ok (v := .non) I hN hi (.inl hl) rfl (fun s1 I1 => ?_) (.inr hl)))
  obtain ⟨m, ns, look⟩ := I1.loc
  have mn : ∃ u, m n = some u := by
    obtain ⟨u, _, l⟩ := look i n .non hi (List.getElem?_set_self il) (.inl hl)
    rcases l with ⟨_, e⟩ | ⟨k, _⟩
    · exact ⟨u, e⟩
    · have k0 : X.env.kindOf n = some .local := hl
      rw [k0] at k
      rcases k with k | k <;> cases k
  obtain ⟨u, hu⟩ := mn
  have kd : (X.env.scope.kind == .class || (X.env.scope.kind == .module && X.env.locals != X.env.globals)) = false := by
    rw [show X.env.scope.kind = .function from I1.ok.kind]; rfl
  unfold unbindBehindTheSuite
  refine wpAny_onRaise (wpAny_unbindName_local (v := u) hl ns hu kd fun h' u' ns' sb => ?_)
  have J := I1.relocal (σ' := (σ.set i (some .non)).set i none) (t' := s1.toks) sb ns' List.length_set fun j y v hj hv vis => ?_
  · rw [List.set_set] at J
    exact h _ J
  · by_cases z : j = i
    · rw [z, List.getElem?_set_self (by rw [List.length_set]; exact il)] at hv; cases hv
    · rw [List.getElem?_set_ne (Ne.symm z)] at hv
      have yn : y ≠ n := fun e => z (nodup_ix hN hj (e ▸ hi))
      obtain ⟨w, r, l⟩ := look j y v hj hv vis
      exact ⟨w, r, l.sameBut sb (if_neg yn) (I1.cne y)⟩
end
theorem exc_match {M : Model} {A : Around} {E : Value → Shared → Prop} {K : PySem.W.Frag} {s : Shared} {ea L : Addr} {oe : Obj} {cls : Value} {b : Bool} {Q : Bool → Shared → Prop} (X : K.In s.heap) (he : s.heap.get? ea = some oe) (hc : oe.cls = cls) (hx : PySem.W.exmOne K cls (.ref L) = some b)
    (q : Q b s) : wpAny M A (excMatches (.ref ea) (.ref L)) Q E s :=
  PySem.W.exm_one X (fun A' Q' E' s' k q' => wpAny_typeOf_ref (k _ _ he) (by rw [hc]; exact q')) hx A Q E s (fun _ _ z => z) q
end L2
end
section
set_option maxHeartbeats 4000001
namespace L2
open PySem PySem.Spec PyProof.Rows
abbrev Cx.held (X : Cx) (e : Addr) : Cx := { X with A := X.A.mark (some (.ref e)), calm := false }
def excO (e C : Addr) (dx : Option Addr) : HO := .ext fun h => ∃ o, h.get? e = some o ∧ o.cls = .ref C ∧ o.dict = dx ∧ ∃ vs, o.data = .fields vs
section
variable {X : Cx} {pins : List (Addr × Obj)} {σ : St} {H : Hp} {s : Shared}
theorem Cx.Ok.held (ok : X.Ok) (e : Addr) : (X.held e).Ok := ⟨ok.mod, ok.kind, ok.glob, ok.blt, ok.above, ok.inj, ok.has, ok.cab, (fun z => nomatch z), ok.frames, ok.stk, ok.exf, ok.bs, ok.bsz, ok.noex, ok.exfs, ok.funs, ok.frf⟩
theorem Inv.held (I : Inv X pins σ H s) (e : Addr) : Inv (X.held e) pins σ H s := ⟨I.ok.held e, I.os, I.bare, I.base, I.loc, I.cell, I.free, I.freeC, I.pin, I.hok, I.len⟩
theorem Inv.unheld {e : Addr} (ok : X.Ok) (I : Inv (X.held e) pins σ H s) : Inv X pins σ H s := ⟨ok, I.os, I.bare, I.base, I.loc, I.cell, I.free, I.freeC, I.pin, I.hok, I.len⟩
theorem Inv.track {e : Addr} {oe : Obj} {vs : Array Value} {o : HO} (I : Inv X pins σ H s) (he : s.heap.get? e = some oe) (hd : oe.data = .fields vs) (hn : H e = none) (h0 : X.s₀.heap.get? e = none) (hp : ∀ p ∈ X.pn ++ pins, p.1 ≠ e)
    (new : ObjOk X.prog X.w (upd H e o) s.heap e o) : Inv X pins σ (upd H e o) s := by
  have ne : ∀ b u, H b = some u → b ≠ e := fun b u q z => by rw [z, hn] at q; cases q
  refine ⟨I.ok, I.os, I.bare, ⟨I.base.keep, I.base.slot, fun b u q n hx => ?_, I.base.there, fun b xs q => ?_, fun b u xs q => ?_, fun b ps q => ?_⟩, I.loc, I.cell, ?_, fun x c q => ?_, fun p q => ?_, fun b u q => ?_, I.len⟩
  · rw [upd_ne (fun z => by rw [z, h0] at q; cases q)]; exact I.base.free b u q n hx
  · have z := I.base.tups b xs q
    rw [upd_ne (ne _ _ z)]; exact z
  · have z := I.base.frzs b u xs q
    rw [upd_ne (ne _ _ z)]; exact z
  · obtain ⟨m, z⟩ := I.base.tbls b ps q
    exact ⟨m, by rw [upd_ne (ne _ _ z)]; exact z⟩
  · obtain ⟨m, ⟨ol, es, ep, hol, hdl, _⟩, _⟩ := I.loc
    rw [upd_ne (fun z => by rw [z, he] at hol; cases hol; rw [hd] at hdl; cases hdl)]; exact I.free
  · obtain ⟨v, oc, hoc, hdc⟩ := I.cell x c q
    rw [upd_ne (fun z => by rw [z, he] at hoc; cases hoc; rw [hd] at hdc; cases hdc)]; exact I.freeC x c q
  · obtain ⟨a1, a2, a3, a4, a5⟩ := I.pin p q
    exact ⟨a1, by rw [upd_ne (hp p q)]; exact a2, a3, a4, a5⟩
  · by_cases z : b = e
    · subst z; rw [upd_same] at q; cases q; exact new
    · rw [upd_ne z] at q
      exact (I.hok b u q).stay (fun _ _ _ r => r) (fun c r => by rw [upd_ne (ne _ _ r)]; exact r) fun c xs r => by rw [upd_ne (ne _ _ r)]; exact r
def behind (i : Nat) (D : Ends) : Ends := { nx := fun σ H => D.nx (σ.set i none) H, rt := D.rt, bk := fun σ H => D.bk (σ.set i none) H, ct := fun σ H => D.ct (σ.set i none) H }
def tCatch (K : PySem.W.Frag) (i : Nat) (L : Addr) (ts : TS) (D : Ends) (σ : St) : XK := fun cls dx H2 => ∃ C, cls = .ref C ∧ PySem.W.exmOne K (.ref C) (.ref L) = some true ∧ ∀ e, H2 e = none → ts (behind i D) (σ.set i (some (.ref e))) (upd H2 e (excO e C dx))
theorem caught {i : Nat} {L : Addr} {n cn : Str} {b0 : Stmt} {suite : List Stmt} {np hpos : Pos} {ts : TS} {D : Ends} {H1 : Hp} {s1 s2 : Shared} {ev : Value} {rest : List ExceptHandler} (I : Inv X pins σ H1 s1) (hx : CX1 X.prog X.w X.stack H1 s1 (tCatch X.K i L ts D σ) ev s2)
    (hst : X.stack = X.env :: X.outer ∧ X.env.frame = some X.env.locals ∧ X.ex = []) (gC : Gl X cn) (mC : X.mg cn = some (.ref L)) (hdb : (cn == ("__debug__" : Str)) = false)
    (hN : X.N.Nodup) (hi : X.N[i]? = some n) (hl : X.env.scope.names.lookup n = some .local) (hs : ∀ e, PSs (X.held e).nox (b0 :: suite) ts) {E : Value → Shared → Prop} :
    wpAny (model X.prog X.w) X.A (noteFrame ev X.env) (fun _ s3 => wpAny (model X.prog X.w) X.A (setFlight ev none) (fun _ s4 => wpAny (model X.prog X.w) X.A (handleBy ev X.env (.ExceptHandler (some (.Name cn np)) (some n) (b0 :: suite) hpos :: rest)) (SP X pins D) E s4) E s3) E s2 := by
  obtain ⟨ea, T, cls, dx, H2, rfl, os, bare, un, hok, fl, ⟨n1, n2⟩, ⟨f1, f2⟩, C, rfl, hcon, k⟩ := hx
  have J : Inv X pins σ H2 s2 := I.call' os un hok bare fun b z => absurd z (by simp)
  have fr : X.A.frames = some (X.env :: X.outer) := by rw [← hst.1]; exact I.ok.frames
  have fu : s2.heap.FunFrames X.base (X.env :: X.outer) := by rw [← hst.1]; exact J.stack
  refine note_fly (B := X.base) fr fu hst.2.1 fl fun h3 T3 st3 l3 fl3 => ?_
  refine land fl3 fun h4 st4 fl4 => ?_
  have nT3 : s1.heap.get? T3 = none := by
    cases q : s1.heap.get? T3 with
    | none => rfl
    | some o =>
      obtain ⟨o', q'⟩ := un.there T3 o q (by simp)
      exact absurd (Heap.lt_size q') (Nat.not_lt.mpr l3)
  have z3 : ∀ b, (b = ea ∨ b = T) → s1.heap.get? b = none := by
    rintro b (q | q)
    · rw [q]; exact n1
    · rw [q]; exact n2
  have z3' : ∀ b, (b = ea ∨ b = T) → H2 b = none := by
    rintro b (q | q)
    · rw [q]; exact f1
    · rw [q]; exact f2
  have fT3 : H2 T3 = none := J.hok.fresh l3
  have un4 : Un (frs X.stack) [] H1 H2 s1.heap h4 := (un.stp st3 z3 fun b o _ hb => by rw [hst.1]; exact hb).stp st4 (fun b q => by rw [q]; exact nT3) (fun _ _ _ z => nomatch z)
  have hok4 : HOk X.prog X.w H2 h4 := HOk.stp (HOk.stp hok st3 z3' fun b hb => J.stkFree b (by rw [hst.1]; exact hb)) st4 (fun b q => by rw [q]; exact fT3) fun _ z => nomatch z
  have J4 : Inv X pins σ H2 { s2 with heap := h4 } := I.call' (s' := { s2 with heap := h4 }) os un4 hok4 bare fun b z => absurd z (by simp)
  obtain ⟨oe, vs, oT, tsv, he, ⟨hc, hdx⟩, hd, h1, ne, hT, hdT, h3'⟩ := id fl4
  refine wpAny_handleBy_cons (codeAny_handlers_test (ld_glob (J4.held ea) gC mC (exc_match (b := true) J4.kIn he hc hcon ?_) hdb)) (by intro q; cases q)
  refine codeAny_handlers_suite_as (land fl4 fun h5 st5 fl5 => ?_)
  have un5 : Un (frs X.stack) [] H1 H2 s1.heap h5 := un4.stp st5 (fun b q => by rw [q]; exact nT3) (fun _ _ _ z => nomatch z)
  have hok5 : HOk X.prog X.w H2 h5 := HOk.stp hok4 st5 (fun b q => by rw [q]; exact fT3) fun _ z => nomatch z
  have J5 : Inv X pins σ H2 { s2 with heap := h5 } := I.call' (s' := { s2 with heap := h5 }) os un5 hok5 bare fun b z => absurd z (by simp)
  obtain ⟨oe5, vs5, _, _, he5, ⟨hc5, hdx5⟩, hd5, _⟩ := id fl5
  have new0 : X.s₀.heap.get? ea = none := by
    cases q : X.s₀.heap.get? ea with
    | none => rfl
    | some o =>
      obtain ⟨o', q'⟩ := I.base.there ea o q (by rw [hst.2.2]; simp)
      rw [n1] at q'; cases q'
  have J6 : Inv X pins σ (upd H2 ea (excO ea C dx)) { s2 with heap := h5 } := by
    refine J5.track he5 hd5 f1 new0 (fun p hp z => ?_) ⟨⟨oe5, he5, hc5, hdx5, _, hd5⟩, ⟨oe5, he5⟩, fun ha hb ⟨o, q, r⟩ m => ⟨o, m o q, r⟩⟩
    have := (I.pin p hp).1
    rw [z, n1] at this; cases this
  refine store_ok (v := .ref ea) J6 hN hi (.inl hl) rfl (fun s7 J7 => ?_) (.inr hl)
  refine wpAny_mono (hs ea pins s7 _ _ (behind i D) ((J7.held ea).wish _) (k ea f1)) (fun f s8 q => ?_) fun _ _ z => z.elim
  have ok := I.ok
  cases f with
  | next => obtain ⟨σ', H', I', q'⟩ := q; exact name_goes (I'.unwish.unheld ok) hN hi hl fun s9 I9 => ⟨_, H', I9, q'⟩
  | brk => obtain ⟨σ', H', I', q'⟩ := q; exact name_goes (I'.unwish.unheld ok) hN hi hl fun s9 I9 => ⟨_, H', I9, q'⟩
  | cont => obtain ⟨σ', H', I', q'⟩ := q; exact name_goes (I'.unwish.unheld ok) hN hi hl fun s9 I9 => ⟨_, H', I9, q'⟩
  | ret u => obtain ⟨v, σ', H', I', r, q'⟩ := q; exact name_goes (I'.unwish.unheld ok) hN hi hl fun s9 I9 => ⟨v, _, H', I9, r, q'⟩
end
end L2
end
section
set_option maxHeartbeats 4000001
namespace L2
open PySem PySem.Spec PyProof.Rows
structure AtTry (X : Cx) : Prop where
  st : X.stack = X.env :: X.outer ∧ X.env.frame = some X.env.locals ∧ X.ex = []
  nox : ∀ e s, X.xe e s → False
structure XAt (X : Cx) (cn : Str) (L : Addr) : Prop where
  gl : Gl X cn
  mg : X.mg cn = some (.ref L)
  db : (cn == ("__debug__" : Str)) = false
section
variable {X : Cx} {k : Nat} {f L : Addr} {fd : FuncData} {ps : List Str} {sp : Sp} {x cn n : Str} {p cpos epos np hpos pos : Pos} {e : Expr} {es : List Expr} {t : TA} {i : Nat} {b0 : Stmt} {suite : List Stmt} {ts : TS} {rest : List ExceptHandler}
theorem callX {pins : List (Addr × Obj)} {s : Shared} {σ : St} {H : Hp} {Q : VK} {E : XK} (F : FnOk X.prog X.w X.K X.mg X.base (CX1 X.prog X.w) k f fd ps sp) (hr : Room k X.A) (hg : Gl X x) (hm : X.mg x = some (.ref f)) (hk : PySem.W.keepIn X.K (.ref f) = true) (hb : Binds X.K fd ps [])
    (hx : ∀ e s, X.xe e s → False) (ha : PA X (e :: es) t) (hdb : (x == ("__debug__" : Str)) = false) (he : starEach (e :: es) X.env = (false, eval e X.env) :: starEach es X.env) (hpl : (backTo pos (starEach es X.env)).any (·.1) = false)
    (I : Inv X pins σ H s) (h : t σ H fun vs H1 => sp vs H1 Q E) :
    wpAny (model X.prog X.w) X.A (eval (.Call (.Name x p) (e :: es) [] pos) X.env) (EP X pins σ Q) (fun ev s' => ∃ H1 s1, Inv X pins σ H1 s1 ∧ CX1 X.prog X.w X.stack H1 s1 E ev s') s := by
  refine wpAny_Call_Name_kw (ld_glob I hg hm ?_ hdb)
  refine PySem.W.callWith_K (h₀ := X.base) I.ok.mod.kin hk (wpAny_mono (ha pos pins s σ H _ I h) (fun us s1 ⟨vs, H1, I1, r, q⟩ => ⟨I1.kIn, ?_⟩) fun ev s1 z => (hx ev s1 z).elim) he hpl
  have hl : (us ++ ([] : List Value)).length = ps.length := by rw [List.append_nil, ← r.length]; exact F.len _ _ _ _ q
  have bd := hb s1 us I1.kIn hl
  rw [List.append_nil] at bd
  refine wpAny_call (codeAny_mono (F.run X.A X.stack s1 H1 ⟨us, []⟩ us vs Q E hr I1.env0 bd r q) fun res s' hq => ?_)
  cases res with
  | error ev => exact ⟨H1, s1, I1, hq⟩
  | ok fl =>
    cases fl with
    | ret u => exact I1.after hq
    | next => exact hq.elim
    | brk => exact hq.elim
    | cont => exact hq.elim
def tTryS (K : PySem.W.Frag) (j i : Nat) (L : Addr) (sp : Sp) (t : TA) (ts : TS) : TS := fun D σ H => t σ H fun vs H1 => sp vs H1 (fun v H2 => D.nx (σ.set j (some v)) H2) (tCatch K i L ts D σ)
theorem ps_tryS {j : Nat} {y : Str} {yp : Pos} (W : AtTry X) (F : FnOk X.prog X.w X.K X.mg X.base (CX1 X.prog X.w) k f fd ps sp) (hr : Room k X.A) (hg : Gl X x) (hm : X.mg x = some (.ref f)) (hk : PySem.W.keepIn X.K (.ref f) = true) (hb : Binds X.K fd ps []) (ha : PA X (e :: es) t)
    (C : XAt X cn L) (hN : X.N.Nodup) (hj : X.N[j]? = some y) (hy : X.env.scope.names.lookup y = some .local) (hi : X.N[i]? = some n) (hl : X.env.scope.names.lookup n = some .local) (hs : ∀ e, PSs (X.held e).nox (b0 :: suite) ts)
    (hdb : (x == ("__debug__" : Str)) = false := by decide) (he : starEach (e :: es) X.env = (false, eval e X.env) :: starEach es X.env := by rfl) (hpl : (backTo cpos (starEach es X.env)).any (·.1) = false := by rfl)
    (hw : swapsWith (.Call (.Name x p) (e :: es) [] cpos) (some (.Name y yp)) epos.line X.env = pure false := by rfl) :
    PS X (.Try [.Assign [.Name y yp] (.Call (.Name x p) (e :: es) [] cpos) epos] (.ExceptHandler (some (.Name cn np)) (some n) (b0 :: suite) hpos :: rest) [] [] pos) (tTryS X.K j i L sp t ts) := by
  intro pins s σ H D I h
  refine PySem.wpAny_Try_except (wpAny_execs_cons (wpAny_Assign_Name (wpAny_mono (callX F hr hg hm hk hb W.nox ha hdb he hpl I h) (fun v s1 q => ?_) fun ev s2 q => ?_) hw))
  · obtain ⟨z, H1, I1, r1, q1⟩ := q
    exact store_ok I1 hN hj (.inl hy) r1 (fun s2 I2 => wpAny_execs_nil (wpAny_execs_nil ⟨_, H1, I2, q1⟩)) (.inr hy)
  · obtain ⟨H1, s1, I1, q1⟩ := q
    exact caught I1 q1 W.st C.gl C.mg C.db hN hi hl hs
end
end L2
end
section
set_option maxHeartbeats 4000001
namespace L2
open PySem PySem.Spec PyProof.Rows
section
variable {h : Heap} {w : World} {prog : Program} {E : Value → Shared → Prop} {A : Around} {g : Array GenState} {os : OsState} {t : Nat} {d : Drawn}
variable {B newId initId : String} {bmB : List Value} {nm q : Str} {C N : Addr} {bs bm : List Value} {hdct : Bool} {sn : List Str} {sub : List Value} {ab : Bool} {col : Option Bool} {dd : Option Addr} {k0 k1 k2 k3 k5 : Option Value}
theorem xm_call (F : ExcBaseFacts B newId initId bmB) (T : OwnTail h bmB bm) {mN : Str → Option Value} {rest : List Value} {fI : Addr} {oI : Obj} {Q : Value → Shared → Prop}
    (hC : h.get? C = some (excClassObj nm q C N bs bm hdct sn sub ab col dd k0 k1 k2 k3 k5 newId)) (hn : h.Ns N mN) (hi : mN "__init__" = some (.ref fI)) (hfI : h.get? fI = some oI) (hfc : oI.cls = .type "function") (hrest : rest.length ≤ sizeLine)
    (hq : ∀ h' e, h.objs.size ≤ e → Heap.MadeExcOf h h' e (.ref C) rest → wpAny (model prog w) (A.under (.builtin "type.__call__" ⟨.ref C :: rest, []⟩)) (call (.ref fI) (.ref e :: rest)) (fun r s' => r = .none ∧ Q (.ref e) s') E ⟨h', g, d, t, os⟩) : wpAny (model prog w) A (call (.ref C) rest) Q E { heap := h, gens := g, drawn := d, toks := t, os := os } := by
  apply wpAny_call; apply codeAny_of_tree
  show wpAny _ _ (callAny (.ref C) ⟨rest, []⟩) _ _ _
  refine wpAny_bind (wpAny_load hC ?_)
  show wpAny _ _ (callAny.viaDunder (.ref C) ⟨rest, []⟩) _ _ _
  unfold callAny.viaDunder specialOf
  refine wpAny_bind (wpAny_bind (wpAny_typeOf_ref hC ?_))
  show wpAny _ _ (typeLookup (.type "type") "__call__") _ _ _
  rw [tc_lookup]
  refine wpAny_pure ?_
  show wpAny _ _ (bindSpecial (.builtin "type.__call__") (.ref C) >>= _) _ _ _
  rw [tc_bind]
  refine wpAny_bind (wpAny_pure (wpAny_bind (wpAny_pure (wpAny_pure ⟨rfl, ?_⟩))))
  have isT : PySem.W.Looks (model prog w) h (isInstance (.ref C) (.type "type")) true := fun A' Q' E' s' k q' => by
    unfold isInstance
    refine wpAny_bind (wpAny_typeOf_ref (k _ _ hC) ?_)
    show wpAny _ _ (isSubtype (.type "type") (.type "type")) _ _ _
    rw [tc_sub]
    exact wpAny_pure q'
  refine codeAny_call_builtin_at (Code.quiet_builtin _ (by decide +kernel)) entry_typeCall (PySem.W.check_slot tc_kind tc_split isT (PySem.W.tc_args _ _ _) ?_)
  delta Builtin.«type.__call__»; show wpAny _ _ (if (Value.ref C == Value.type "type") = true then _ else _) _ _ _
  rw [if_neg (by intro z; cases z)]
  show wpAny _ _ (mroOf (.ref C) >>= _) _ _ _
  refine wpAny_bind (wpAny_mroOf_exc hC ?_); show wpAny _ _ (if (Value.ref C :: bm).isEmpty = true then _ else _) _ _ _
  rw [if_neg (by intro z; cases z)]
  show wpAny _ _ (Bind.madeBy (.ref C) >>= _) _ _ _
  refine wpAny_bind (wpAny_madeBy_exc hC (wpAny_bind (wpAny_pure ?_)))
  show wpAny _ _ (holding [.builtin newId] (call (.builtin newId) (.ref C :: rest) []) >>= _) _ _ _
  refine wpAny_bind (wpAny_holding (wpAny_call (codeAny_call_builtin_code (Code.quiet_builtin _ F.quiet) (wpAny_check_new_subT F T hC (codeAny_exc_new_subT F T hC ?_ hrest)))))
  show wpAny _ _ _ _ _ ⟨(h.push { cls := .type "tuple", data := .seq rest.toArray }).push { cls := .ref C, data := .fields #[.ref h.objs.size, .none, .none, .none, .bool false, .none] }, g, d, t, os⟩
  generalize hE : h.objs.size + 1 = e
  generalize hH : (h.push { cls := .type "tuple", data := .seq rest.toArray }).push { cls := .ref C, data := .fields #[.ref h.objs.size, .none, .none, .none, .bool false, .none] } = h'
  have keep : ∀ b o, h.get? b = some o → h'.get? b = some o := fun b o z => by rw [← hH]; exact Heap.get?_push_of_some _ (Heap.get?_push_of_some _ z)
  have at_e : h'.get? e = some { cls := .ref C, data := .fields #[.ref h.objs.size, .none, .none, .none, .bool false, .none] } := by
    rw [← hH, ← hE, ← Heap.size_push h { cls := .type "tuple", data := .seq rest.toArray }]; exact Heap.get?_push_size _ rfl
  have made : Heap.MadeExcOf h h' e (.ref C) rest := ⟨keep, Heap.get?_none_of_le (by lia), h.objs.size, at_e, Heap.get?_none_of_le (Nat.le_refl _), by rw [← hH]; exact Heap.get?_push_of_some _ (Heap.get?_push_size _ rfl)⟩
  have hC' := keep _ _ hC
  show wpAny _ _ (isInstance (.ref e) (.ref C) >>= _) _ _ _
  unfold isInstance
  refine wpAny_bind (wpAny_bind (wpAny_typeOf_ref at_e ?_))
  show wpAny _ _ (isSubtype (.ref C) (.ref C)) _ _ _
  refine wpAny_isSubtype_exc hC' ?_
  rw [show (Value.ref C :: bm).contains (.ref C) = true by simp]
  show wpAny _ _ (holding [.ref e] (callSpecial? (.ref e) "__init__" rest []) >>= _) _ _ _
  unfold callSpecial? specialOf
  refine wpAny_bind (wpAny_holding (wpAny_bind (wpAny_bind (wpAny_typeOf_ref at_e ?_))))
  show wpAny _ _ (typeLookup (.ref C) "__init__") _ _ _
  refine wpAny_typeLookup_tail hC' (hn.keeps keep) (T.keeps keep) F.mroIs F.init.lookup ?_
  rw [hi]
  refine wpAny_holding (wpAny_bind (wpAny_bindSpecial_def (keep _ _ hfI) hfc (wpAny_bind (wpAny_mono (hq h' e (by lia) made) (fun r s' z => ?_) fun _ _ z => z))))
  obtain ⟨rfl, z⟩ := z
  refine wpAny_pure ?_
  show wpAny _ _ (if (Value.none != Value.none) = true then _ else _) _ _ _
  rw [if_neg (by decide)]
  exact wpAny_pure z
end
end L2
end
section
set_option maxHeartbeats 4000001
namespace L2
open PySem PySem.Spec PyProof.Rows
abbrev bmV : List Value := [.type "ValueError", .type "Exception", .type "BaseException", .type "object"]
section
variable {prog : Program} {w : World} {A : Around} {E : Value → Shared → Prop} {K : PySem.W.Frag} {hp : Heap} {gs : Array GenState} {dr : Drawn} {tk : Nat} {os : OsState} {nm q f : Str} {C N L e : Addr} {bs sub : List Value} {sn : List Str} {ab : Bool} {col : Option Bool} {dd : Option Addr} {k0 k1 k2 k3 k5 : Option Value} {nid : String} {oe : Obj} {u : Value} {Q : Unit → Shared → Prop}
theorem xs_attr (X : K.In hp) (hC : hp.get? C = some (excClassObj nm q C N bs (.ref L :: bmV) true sn sub ab col dd k0 k1 k2 k3 k5 nid)) (hs : PySem.W.findIn K (.ref C) "__setattr__" = some (some (.builtin "object.__setattr__"))) (hna : PySem.W.findIn K (.ref C) f = some none)
    (he : hp.get? e = some oe) (hc : oe.cls = .ref C) (hd : oe.dict = none) {vs : Array Value} (hn : oe.data = .fields vs)
    (h : ∀ h' tk', h'.get? e = some { oe with dict := some hp.objs.size } → h'.Ns1 hp.objs.size (fun y => if y = f then some u else none) → (∀ c o, c ≠ e → hp.get? c = some o → h'.get? c = some o) → Q () ⟨h', gs, dr, tk', os⟩) :
    wpAny (model prog w) A (setAttr (.ref e) f u) Q E ⟨hp, gs, dr, tk, os⟩ := by
  have I : PySem.W.InstAt hp e oe C none := ⟨he, hc, by unfold PySem.W.notCls; rw [hn], by rw [hd]; trivial⟩
  refine PySem.W.set_plain X I hs ?_
  have isO : PySem.W.Looks (model prog w) hp (isInstance (.ref e) (.type "object")) true := fun A' Q' E' s' k q' => by
    unfold isInstance
    refine wpAny_bind (wpAny_typeOf_ref (k _ _ he) ?_)
    rw [hc]
    obtain ⟨h', g', d', t', os'⟩ := s'
    exact wpAny_isSubtype_exc (k _ _ hC) q'
  refine codeAny_call_builtin PySem.F.slot_object_setattr.plain PySem.F.entry_object_sa ?_
  have ck := @PySem.W.check_slot (model prog w) A.in1 E ⟨hp, gs, dr, tk + 1, os⟩ "object.__setattr__" "object" "__setattr__" (.ref e) [.str f tk, u] []
  refine ck PySem.F.store_ValueError.kind PySem.F.store_ValueError.split isO (PySem.F.store_ValueError.args _ _ _) ?_
  rw [PySem.W.osa_eq, refuse_eq]
  refine wpAny_bind (wpAny_bind (wpAny_typeOf_ref he ?_))
  rw [hc]
  refine wpAny_bind (wpAny_mroOf_exc hC ?_); rw [refuseLoop_ref, refuseLoop_ref, PySem.F.store_ValueError.passes]
  refine wpAny_pure (wpAny_bind (wpAny_typeOf_ref he ?_))
  rw [hc]
  refine wpAny_bind (PySem.W.looks_findIn X hna _ _ _ _ (fun _ _ z => z) ?_)
  refine wpAny_bind (wpAny_pure ?_)
  show wpAny _ _ (Builtin.ObjectAttr.storeInOwnDict (.ref e) (.ref C) (.str f tk) f u false) _ _ _
  unfold Builtin.ObjectAttr.storeInOwnDict
  refine wpAny_bind (wpAny_pure ?_)
  show wpAny _ _ (if (Value.ref C == Value.type "module") = true then _ else _) _ _ _
  rw [if_neg (by intro z; cases z)]
  show wpAny _ _ (instanceDict e true >>= _) _ _ _
  unfold instanceDict
  refine wpAny_bind (wpAny_bind (wpAny_loadPart he ?_))
  obtain ⟨ce, de, dt, sl⟩ := oe
  obtain rfl : ce = .ref C := hc
  obtain rfl : de = none := hd
  obtain rfl : dt = .fields vs := hn
  show wpAny _ _ (classData C >>= _) _ _ _
  unfold classData
  refine wpAny_bind (wpAny_bind (wpAny_load hC (wpAny_pure ?_)))
  show wpAny _ _ (if (!true) = true then _ else _) _ _ _; rw [if_neg (by decide)]
  show wpAny _ _ (if (!true || !true) = true then _ else _) _ _ _
  rw [if_neg (by decide)]
  show wpAny _ _ (alloc { cls := .type "dict", data := .dict #[] } >>= _) _ _ _
  refine wpAny_bind (wpAny_alloc (wpAny_bind (wpAny_update (Heap.get?_push_of_some _ he) (wpAny_pure ?_))))
  have lt : e < hp.objs.size := Heap.lt_size he
  have ne : e ≠ hp.objs.size := Nat.ne_of_lt lt
  generalize hG : (hp.push { cls := .type "dict", data := .dict #[] }).update e (fun o => { o with dict := some hp.objs.size }) = h2
  have at2 : h2.get? e = some ⟨.ref C, some hp.objs.size, .fields vs, sl⟩ := by
    rw [← hG]
    exact Heap.get?_update_self _ (Heap.get?_push_of_some _ he) rfl
  have other : ∀ c o, c ≠ e → (hp.push { cls := .type "dict", data := .dict #[] }).get? c = some o → h2.get? c = some o := fun c o z r => by rw [← hG, Heap.get?_update_other _ _ (Ne.symm z)]; exact r
  have ns2 : h2.Ns1 hp.objs.size fun _ => none := ⟨{ cls := .type "dict", data := .dict #[] }, #[], 0, other _ _ (Ne.symm ne) (Heap.get?_push_size _ rfl), rfl, by simp [StrKeys], by simp [UniqKeys], fun _ => rfl⟩
  show wpAny _ _ (Builtin.ObjectAttr.storeInDict hp.objs.size (.str f tk) f u) _ _ _
  unfold Builtin.ObjectAttr.storeInDict
  refine wpAny_bind (wpAny_pure (wpAny_bind (wpAny_nsSet1 ns2 fun h3 ns3 sb3 => ?_)))
  obtain ⟨o3, es3, ep3, g3, d3, z3⟩ := ns3.count (ns := [f]) (Within.cons f u Within.nil)
  refine wpAny_bind (wpAny_lookBehind g3 ?_ (wpAny_pure (h h3 _ ((sb3.2 e ne).trans at2) ns3 fun c o z r => ?_)))
  · rw [d3]
    show (if es3.size > sizeLine + 1 then some "dict:memory" else none) = none
    rw [if_neg]
    rw [sizeLine_eq]
    have : es3.size ≤ 1 := z3
    lia
  · have cn : c ≠ hp.objs.size := Nat.ne_of_lt (Heap.lt_size r)
    exact (sb3.2 c cn).trans (other c o z (Heap.get?_push_of_some _ r))
end
end L2
end
section
set_option maxHeartbeats 4000001
namespace L2
open PySem PySem.Spec PyProof.Rows
theorem xi_call {prog : Program} {w : World} {A : Around} {E : Value → Shared → Prop} {hp : Heap} {gs : Array GenState} {dr : Drawn} {tk : Nat} {os : OsState} {B nid initId newId : String} {bmB bm bs sub : List Value} {nm q : Str} {C N e t0 : Addr} {hdct ab : Bool} {sn : List Str} {col : Option Bool} {dd dx : Option Addr} {k0 k1 k2 k3 k5 : Option Value} {rest : List Value} {Q : Value → Shared → Prop}
    (F : ExcBaseFacts B nid initId bmB) (T : OwnTail hp bmB bm) (hC : hp.get? C = some (excClassObj nm q C N bs bm hdct sn sub ab col dd k0 k1 k2 k3 k5 newId))
    (he : hp.get? e = some { cls := .ref C, dict := dx, data := .fields #[.ref t0, .none, .none, .none, .bool false, .none] }) (hr : rest.length ≤ sizeLine)
    (hq : ∀ h', (∀ b o, b ≠ e → hp.get? b = some o → h'.get? b = some o) → (∃ t1, h'.get? e = some { cls := .ref C, dict := dx, data := .fields #[.ref t1, .none, .none, .none, .bool false, .none] }) → Q .none ⟨h', gs, dr, tk, os⟩) :
    wpAny (model prog w) A (call (.builtin initId) (.ref e :: rest)) Q E ⟨hp, gs, dr, tk, os⟩ := by
  refine wpAny_call (codeAny_call_builtin F.init.plain F.initEntry (wpAny_check_init_subU F T hC he rfl ?_))
  delta Builtin.«BaseException.__init__»; skip
  show wpAny _ _ (newTuple rest >>= _) _ _ _
  have he2 := Heap.get?_push_of_some { cls := .type "tuple", data := .seq rest.toArray } he
  refine wpAny_bind (wpAny_newTuple ?_ hr)
  unfold Builtin.BaseException.bexcPut
  refine wpAny_bind (wpAny_bind (wpAny_field he2 rfl rfl (wpAny_bind (wpAny_setField he2 rfl (show 0 < 6 by decide) (wpAny_letGo ?_)))))
  refine wpAny_pure (hq _ (fun b o z r => (put_ne z).trans (Heap.get?_push_of_some _ r)) ⟨hp.objs.size, put_at 0 _ he2⟩)
end L2
end
section
set_option maxHeartbeats 4000001
namespace L2
open PySem PySem.Spec PyProof.Rows
def newX (e C : Addr) (dx : Option Addr) : HO := .ext fun h => ∃ t, h.get? e = some { cls := .ref C, dict := dx, data := .fields #[.ref t, .none, .none, .none, .bool false, .none] }
theorem newX_ok {P : Program} {w : World} {H : Hp} {h : Heap} {e C t : Addr} {dx : Option Addr} (q : h.get? e = some { cls := .ref C, dict := dx, data := .fields #[.ref t, .none, .none, .none, .bool false, .none] }) : ObjOk P w H h e (newX e C dx) :=
  ⟨⟨t, q⟩, ⟨_, q⟩, fun _ _ ⟨t', q'⟩ m => ⟨t', m _ q'⟩⟩
structure XOwn (K : PySem.W.Frag) (C L fI : Addr) : Prop where
  cl : ∃ nm q N bs sn sub ab col dd k0 k1 k2 k3 k5, K.lookup C = some (excClassObj nm q C N bs (.ref L :: bmV) true sn sub ab col dd k0 k1 k2 k3 k5 "ValueError.__new__") ∧ PySem.W.nsOkIn K N = true ∧ PySem.W.nsIn K N "__init__" = some (some (.ref fI))
  tl : PySem.W.tailIn K bmV (.ref L :: bmV) = true
  fl : ∃ oI, K.lookup fI = some oI ∧ oI.cls = .type "function"
  set : PySem.W.findIn K (.ref C) "__setattr__" = some (some (.builtin "object.__setattr__"))
  kp : PySem.W.keepIn K (.ref C) = true
structure XBase (K : PySem.W.Frag) (L : Addr) : Prop where
  sp : PySem.W.specialIn K (.ref L) "__getattribute__" = some (some (.builtin "type.__getattribute__"))
  rd : PySem.W.readsIn K L (.type "type") = true
  fd : PySem.W.findCls K (.ref L) (.type "type") "__init__" = some (.val (.builtin "ValueError.__init__"))
theorem upd_id {H : Hp} {a : Addr} {o : HO} (h : H a = some o) : upd H a o = H := by
  funext b
  by_cases z : b = a
  · rw [z, upd_same, h]
  · rw [upd_ne z]
section
variable {X : Cx} {C L fI : Addr} {cn f : Str} {np apos pos pos' : Pos} {a b o value : Expr} {t : TA} {ta tv : TE}
def tXInit (C : Addr) (t : TA) : TE := fun σ H Q => t σ H fun vs H1 => ∃ e v dx, vs = [.ref e, v] ∧ H1 e = some (newX e C dx) ∧ Q .non H1
theorem pe_xinit {pl : Sem Bool} (B : XBase X.K L) (O : XOwn X.K C L fI) (gl : Gl X cn) (mg : X.mg cn = some (.ref L)) (ha : PA X [a, b] t) (hdb : (cn == ("__debug__" : Str)) = false := by decide)
    (hst : starEach [a, b] X.env = (false, eval a X.env) :: starEach [b] X.env := by rfl) (hpl : (backTo pos (starEach [b] X.env)).any (·.1) = false := by rfl)
    (ht : eval (.Call (.Attribute (.Name cn np) "__init__" apos) [a, b] [] pos) X.env = (do
      let ov ← eval (.Name cn np) X.env
      standAt apos.atName
      let (f, first) ← holding [ov] (getMethod ov "__init__" pl)
      callWith pos f first (backTo pos (starEach [a, b] X.env)) (backToKw pos (keywordEach [] X.env))) := by rfl) :
    PE X (.Call (.Attribute (.Name cn np) "__init__" apos) [a, b] [] pos) (tXInit C t) := by
  intro pins s σ H Q I h
  refine PySem.W.methodCall_KW (pl := pl) (ld_glob I gl mg (PySem.W.method_cls I.kIn B.sp (PySem.W.cls_value I.kIn B.rd B.fd rfl ?_)) hdb) ht
  refine PyProof.Rows.callWith_builtin1 (thn (ha pos pins _ σ H _ (I.tok _) h) fun us s1 ⟨vs, H1, I1, r, e, v, dx, ev, he, qq⟩ => ?_) hst hpl
  subst ev
  obtain ⟨u1, u2, rfl, r1, r2⟩ := Vals.two r
  obtain rfl : u1 = Value.ref e := r1
  obtain ⟨⟨t0, g0⟩, _, _⟩ := I1.hok e _ he
  obtain ⟨nm, q, N, bs, sn, sub, ab, col, dd, k0, k1, k2, k3, k5, lC, _⟩ := O.cl
  have kin := I1.kIn
  obtain ⟨hp, g, d, tk, os⟩ := s1
  refine xi_call PySem.F.excBase_ValueError (PySem.W.tail_of_in kin O.tl) (kin _ _ lC) g0 (by show 1 ≤ sizeLine; decide) fun h' keep new => ?_
  obtain ⟨t1, new⟩ := new
  have W := I1.write (h' := h') (t' := tk) (o := newX e C dx) (by rw [he]; exact trivial) (.inl rfl) keep ⟨_, new⟩ (newX_ok new)
  rw [upd_id he] at W
  exact ⟨.non, H1, W, rfl, qq⟩
end
end L2
end
section
set_option maxHeartbeats 4000001
namespace L2
open PySem PySem.Spec PyProof.Rows
section
variable {X : Cx} {C L fI : Addr} {cn f : Str} {np apos pos pos' : Pos} {a b o value : Expr} {t : TA} {ta tv : TE}
def tXSet (C : Addr) (ta tv : TE) (f : Str) : TS := fun D σ H => tv σ H fun y H1 => ta σ H1 fun x H2 => ∃ e, x = .ref e ∧ H2 e = some (newX e C none) ∧ ∀ dx, H2 dx = none → dx ≠ e → D.nx σ (upd (upd H2 dx (.xd [(f, y)])) e (newX e C (some dx)))
theorem ps_xset (O : XOwn X.K C L fI) (hna : PySem.W.findIn X.K (.ref C) f = some none) (ha : PE X o ta) (hv : PE X value tv) (hs : swapsWith value (some (.Attribute o f pos')) pos.line X.env = pure false := by rfl) : PS X (.Assign [.Attribute o f pos'] value pos) (tXSet C ta tv f) := by
  intro pins s σ H D I h
  refine plainObj_wpAny_Assign_Attribute (thn (hv pins s σ H _ I h) fun u s1 ⟨y, H1, I1, ry, q⟩ => thn (ha pins s1 σ H1 _ I1 q) fun ov s2 ⟨x, H2, I2, rx, e, ex, ee, qq⟩ => ?_) hs
  subst ex
  obtain rfl : ov = Value.ref e := rx
  obtain ⟨⟨t0, g0⟩, _, _⟩ := I2.hok e _ ee
  obtain ⟨nm, q, N, bs, sn, sub, ab, col, dd, k0, k1, k2, k3, k5, lC, _⟩ := O.cl
  have kin := I2.kIn
  obtain ⟨hp, g, d, tk, os⟩ := s2
  have le : e < hp.objs.size := Heap.lt_size g0
  have nd : H2 hp.objs.size = none := I2.hok.fresh (Nat.le_refl _)
  have ned : hp.objs.size ≠ e := Nat.ne_of_gt le
  have mu : ∀ c u, H2 c = some u → (∀ φ, u ≠ .ext φ) → c ≠ e := fun c u z nz zz => by rw [zz, ee] at z; exact nz _ (Option.some.inj z).symm
  have nn : ∀ c u, H2 c = some u → c ≠ hp.objs.size := fun c u z zz => by rw [zz, nd] at z; cases z
  refine xs_attr kin (kin _ _ lC) O.set hna g0 rfl rfl rfl fun h' tk' a1 a2 a3 => ?_
  refine ⟨σ, _, I2.un (h' := h') (t' := tk') ⟨fun c ob z n _ _ => ?_, fun c ob z n _ _ => ?_, fun c ob z n _ => ?_, fun c ob z _ => ?_, fun c xs z => ?_, fun c ob u z => ?_, fun c ps z => ?_⟩ (fun c u z => ?_), qq hp.objs.size nd ned⟩
  · exact a3 c ob (fun zz => by rw [zz, ee] at n; cases n) z
  · exact ⟨ob.slots, a3 c ob (fun zz => by rw [zz, ee] at n; cases n) z⟩
  · rw [upd_ne (fun zz => by rw [zz, ee] at n; cases n), upd_ne (Nat.ne_of_lt (Heap.lt_size z))]; exact n
  · by_cases zz : c = e
    · rw [zz]; exact ⟨_, a1⟩
    · exact ⟨ob, a3 c ob zz z⟩
  · rw [upd_ne (mu _ _ z fun φ w => nomatch w), upd_ne (nn _ _ z)]; exact z
  · rw [upd_ne (mu _ _ z fun φ w => nomatch w), upd_ne (nn _ _ z)]; exact z
  · exact ⟨#[], by rw [upd_ne (mu _ _ z fun φ w => nomatch w), upd_ne (nn _ _ z), z]; simp⟩
  · by_cases ce : c = e
    · subst ce
      rw [upd_same] at z; cases z
      exact newX_ok a1
    · rw [upd_ne ce] at z
      by_cases cd : c = hp.objs.size
      · subst cd
        rw [upd_same] at z; cases z
        refine ⟨_, a2, fun n => ?_⟩
        by_cases w : n = f
        · subst w
          have e1 : List.lookup n [(n, y)] = some y := by simp [List.lookup]
          rw [e1, if_pos rfl]; exact ry
        · have e1 : List.lookup n [(f, y)] = none := by simp [List.lookup, beq_eq_false_iff_ne.mpr w]
          rw [e1, if_neg w]; trivial
      · rw [upd_ne cd] at z
        refine (I2.hok c u z).stay (fun c' ob w r => a3 c' ob ?_ r) (fun c' w => ?_) fun c' xs w => ?_
        · rcases w with w | w
          · rw [w]; exact ce
          · exact mu _ _ w fun φ w => nomatch w
        · rw [upd_ne (mu _ _ w fun φ w => nomatch w), upd_ne (nn _ _ w)]; exact w
        · rw [upd_ne (mu _ _ w fun φ w => nomatch w), upd_ne (nn _ _ w)]; exact w
end
def cut (H : Hp) (e : Addr) : Hp := fun b => if b = e then none else H b
theorem cut_ne {H : Hp} {e b : Addr} (h : b ≠ e) : cut H e b = H b := by unfold cut; rw [if_neg h]
theorem cut_at {H : Hp} {e : Addr} : cut H e e = none := by unfold cut; rw [if_pos rfl]
theorem Inv.untrack {X : Cx} {pins : List (Addr × Obj)} {σ : St} {H : Hp} {s : Shared} {e : Addr} {φ : Heap → Prop} (I : Inv X pins σ H s) (he : H e = some (.ext φ)) : Inv X pins σ (cut H e) s := by
  have ne : ∀ c u, H c = some u → (∀ φ, u ≠ .ext φ) → c ≠ e := fun c u z nz zz => by rw [zz, he] at z; exact nz _ (Option.some.inj z).symm
  have no : ∀ c, H c = none → cut H e c = none := fun c z => by unfold cut; split <;> first | rfl | exact z
  refine ⟨I.ok, I.os, I.bare, ⟨I.base.keep, I.base.slot, fun b u q n hx => no b (I.base.free b u q n hx), I.base.there, fun b xs q => ?_, fun b u xs q => ?_, fun b ps q => ?_⟩, I.loc, I.cell, no _ I.free, fun x c q => no _ (I.freeC x c q), fun p q => ?_, fun b u q => ?_, I.len⟩
  · have z := I.base.tups b xs q
    rw [cut_ne (ne _ _ z fun φ w => nomatch w)]; exact z
  · have z := I.base.frzs b u xs q
    rw [cut_ne (ne _ _ z fun φ w => nomatch w)]; exact z
  · obtain ⟨m, z⟩ := I.base.tbls b ps q
    exact ⟨m, by rw [cut_ne (ne _ _ z fun φ w => nomatch w)]; exact z⟩
  · obtain ⟨a1, a2, a3, a4, a5⟩ := I.pin p q
    exact ⟨a1, no _ a2, a3, a4, a5⟩
  · have nb : b ≠ e := fun z => by rw [z, cut_at] at q; cases q
    rw [cut_ne nb] at q
    exact (I.hok b u q).stay (fun _ _ _ r => r) (fun c r => by rw [cut_ne (ne _ _ r fun φ w => nomatch w)]; exact r) fun c xs r => by rw [cut_ne (ne _ _ r fun φ w => nomatch w)]; exact r
end L2
end
section
set_option maxHeartbeats 4000001
namespace L2
open PySem PySem.Spec PyProof.Rows
theorem ns_some {K : PySem.W.Frag} {h : Heap} {N : Addr} {m : Str → Option Value} {n : Str} {v : Value} (X : K.In h) (G : h.Ns N m) (e : PySem.W.nsIn K N n = some (some v)) : m n = some v := by
  obtain ⟨o, es, ep, go, dt, _, ff⟩ := G
  unfold PySem.W.nsIn at e
  cases hl : K.lookup N with
  | none => rw [hl] at e; cases e
  | some ob =>
    obtain rfl := Option.some.inj ((X _ _ hl).symm.trans go)
    obtain ⟨c, d, dt', sl⟩ := ob
    obtain rfl : dt' = .dict es ep := dt
    rw [hl] at e
    have e' : (match es.toList.find? (·.key.isStr n) with | some en => some (some en.val) | none => if es.toList.any (·.refKey) then none else some none) = some (some v) := e
    rw [← ff n]
    unfold nsFind findBy
    cases hf : es.toList.find? (·.key.isStr n) with
    | none =>
      rw [hf] at e'
      exfalso
      revert e'
      show (if (es.toList.any fun x => x.refKey) = true then none else some none) = some (some v) → False
      split <;> intro z <;> cases z
    | some en =>
      rw [hf] at e'
      have e2 : some (some en.val) = some (some v) := e'
      rw [← Array.find?_toList, hf]
      exact Option.some.inj e2
theorem raise_of {M : Model} {A : Around} {E : Value → Shared → Prop} {s : Shared} {env : Env} {x : Sem Value} {Q : Flow → Shared → Prop} {nm q : Str} {C N : Addr} {bs bm sub : List Value} {hdct ab : Bool} {sn : List Str} {col : Option Bool} {dd : Option Addr} {k0 k1 k2 k3 k5 : Option Value} {newId : String}
    (hb : (Value.ref C :: bm).contains (.type "BaseException") = true) (hh : A.handled = none)
    (h : wpAny M A x (fun v s1 => ∃ e t dx, v = .ref e ∧ s1.heap.get? C = some (excClassObj nm q C N bs bm hdct sn sub ab col dd k0 k1 k2 k3 k5 newId) ∧ s1.heap.get? e = some { cls := .ref C, dict := dx, data := .fields #[.ref t, .none, .none, .none, .bool false, .none] } ∧ E (.ref e) s1) E s) : wpAny M A (raiseStmt env (some x) none) Q E s := by
  unfold raiseStmt
  refine wpAny_bind (wpAny_mono h (fun v s1 z => ?_) fun _ _ z => z)
  obtain ⟨e, t, dx, rfl, hC, he, hE⟩ := z
  obtain ⟨hp, gs, dr, tk, os⟩ := s1
  have noType : ∀ {α : Type} {k : Bool → Sem α} {Q' : α → Shared → Prop}, wpAny M A (k false) Q' E ⟨hp, gs, dr, tk, os⟩ → wpAny M A (isType (.ref e) >>= k) Q' E ⟨hp, gs, dr, tk, os⟩ := fun z => by
    unfold isType loadHead
    exact wpAny_bind (wpAny_bind (wpAny_loadPart he (wpAny_pure z)))
  have isB : ∀ {α : Type} {k : Bool → Sem α} {Q' : α → Shared → Prop}, wpAny M A (k true) Q' E ⟨hp, gs, dr, tk, os⟩ → wpAny M A (isInstance (.ref e) (.type "BaseException") >>= k) Q' E ⟨hp, gs, dr, tk, os⟩ := fun z => by
    unfold isInstance
    refine wpAny_bind (wpAny_bind (wpAny_typeOf_ref he ?_))
    show wpAny _ _ (isSubtype (.ref C) (.type "BaseException")) _ _ _
    refine wpAny_isSubtype_exc hC ?_
    rw [hb]; exact z
  refine wpAny_bind (wpAny_pure ?_)
  refine wpAny_bind (wpAny_holding ?_); unfold excFromValue isExcClass
  refine wpAny_bind (noType (wpAny_pure ?_))
  show wpAny _ _ (isInstance (.ref e) (.type "BaseException") >>= _) _ _ _
  refine isB (wpAny_pure ?_)
  show wpAny _ _ (isType (.ref e) >>= _) _ _ _
  refine noType ?_
  show wpAny _ _ (raisedInstance (.ref e) >>= _) _ _ _
  unfold raisedInstance
  refine wpAny_bind (wpAny_bind (wpAny_typeOf_ref he ?_))
  show wpAny _ _ (typeOf (.ref C) >>= _) _ _ _
  refine wpAny_bind (wpAny_typeOf_ref hC ?_)
  show wpAny _ _ (if (Value.type "type" == Value.type "type") = true then _ else _) _ _ _
  rw [if_pos (by decide)]
  refine wpAny_pure ?_
  unfold setFlight
  refine wpAny_bind (wpAny_bind (wpAny_field he rfl rfl ?_))
  show wpAny _ _ (if (Value.none != Value.none) = true then _ else _) _ _ _
  rw [if_neg (by decide)]
  exact wpAny_pure (wpAny_raiseNew_none hh hE)
def spXI (C : Addr) (f : Str) (good : V → Prop) : Sp := fun vs H Q _ => ∃ e v, vs = [.ref e, v] ∧ good v ∧ H e = some (newX e C none) ∧ ∀ dx, H dx = none → dx ≠ e → Q .non (upd (upd H dx (.xd [(f, v)])) e (newX e C (some dx)))
def tRaiseX (C : Addr) (f : Str) (good : V → Prop) (E : XK) (t : TA) : TS := fun _ σ H => t σ H fun vs H1 => ∃ v, vs = [v] ∧ good v ∧ ∀ dx, H1 dx = none → E (.ref C) (some dx) (upd H1 dx (.xd [(f, v)]))
section
variable {P : Program} {w : World} {K : PySem.W.Frag} {mg : Str → Option Value} {base : Heap} {N : List Str} {qual : Str} {scope : Scope} {fn : Addr} {cd : Value} {A : Around} {outer : List Env} {s : Shared} {H : Hp} {E : XK}
theorem ps_raiseX {C L fI : Addr} {fd : FuncData} {k : Nat} {par f cn : Str} {good : V → Prop} {np cpos pos : Pos} {a : Expr} {t : TA} (O : XOwn K C L fI) (F : FnOk P w K mg base CX0 k fI fd ["self", par] (spXI C f good)) (hb : Binds K fd ["self", par] [])
    (hr : Room (k + 1) (cxOf (CX1 P w) P w K mg base N qual scope fn cd A outer s H E).A) (gl : Gl (cxOf (CX1 P w) P w K mg base N qual scope fn cd A outer s H E) cn) (hm : mg cn = some (.ref C)) (ha : PA (cxOf (CX1 P w) P w K mg base N qual scope fn cd A outer s H E).nox [a] t)
    (hdb : (cn == ("__debug__" : Str)) = false := by decide) (he : starEach [a] (cxOf (CX1 P w) P w K mg base N qual scope fn cd A outer s H E).env = [(false, eval a (cxOf (CX1 P w) P w K mg base N qual scope fn cd A outer s H E).env)] := by rfl) :
    PS (cxOf (CX1 P w) P w K mg base N qual scope fn cd A outer s H E) (.Raise (some (.Call (.Name cn np) [a] [] cpos)) none pos) (tRaiseX C f good E t) := by
  intro pins s1 σ H1 D I h
  rw [arm_exec_Raise]
  obtain ⟨nm, q, Nn, bs, sn, sub, ab, col, dd, k0, k1, k2, k3, k5, lC, nsok, nsi⟩ := O.cl
  refine wpAny_bind (wpAny_standAt (raise_of (C := C) (nm := nm) (q := q) (N := Nn) (bs := bs) (bm := .ref L :: bmV) (sub := sub) (hdct := true) (ab := ab) (sn := sn) (col := col) (dd := dd) (k0 := k0) (k1 := k1) (k2 := k2) (k3 := k3) (k5 := k5) (newId := "ValueError.__new__") (by rw [List.contains_cons, List.contains_cons]; simp [bmV]) (I.ok.hd rfl) (wpAny_bind (wpAny_mono (?_ : wpAny _ _ (eval (.Call (.Name cn np) [a] [] cpos) _) _ _ _) (fun v s3 z => wpAny_bind (wpAny_standAt (wpAny_pure z))) fun _ _ z => z))))
  refine wpAny_Call_Name_kw (ld_glob I gl hm ?_ hdb)
  refine PySem.W.callWith_K (h₀ := base) I.ok.mod.kin O.kp (wpAny_mono (ha cpos pins s1 σ H1 _ (I.wish _) h) (fun us s2 z => ?_) fun _ _ z => z.elim) he rfl
  obtain ⟨vs, H2, I2, r, v, ev, gv, qq⟩ := z
  have I2 := I2.unwish
  subst ev
  have kin := I2.kIn
  refine ⟨kin, ?_⟩
  obtain ⟨u, rfl, ru⟩ : ∃ u, us = [u] ∧ RelV v u := by
    cases r with
    | cons p r => cases r; exact ⟨_, rfl, p⟩
  obtain ⟨oI, lI, hcI⟩ := O.fl
  have hI := kin _ _ lI
  obtain ⟨hp, g, d, tk, os⟩ := s2
  refine xm_call PySem.F.excBase_ValueError (PySem.W.tail_of_in kin O.tl) (kin _ _ lC) (.of_isNs (PySem.W.isNs_of_in kin nsok)) (?_ : hp.nsMap Nn "__init__" = some (.ref fI)) hI hcI (by show 1 ≤ sizeLine; decide) fun h' e le made => ?_
  · exact ns_some kin (.of_isNs (PySem.W.isNs_of_in kin nsok)) nsi
  obtain ⟨t0, ge, _, _⟩ := made.there
  have I3 : Inv (cxOf (CX1 P w) P w K mg base N qual scope fn cd A outer s H E) pins σ (upd H2 e (newX e C none)) ⟨h', g, d, tk, os⟩ := I2.laid (h' := h') (t' := tk) made.keeps le (newX_ok ge)
  have fe : H2 e = none := I2.hok.fresh le
  have sp : spXI C f good [.ref e, v] (upd H2 e (newX e C none)) (fun x H4 => x = .non ∧ ∃ dx, H2 dx = none ∧ dx ≠ e ∧ H4 = upd (upd (upd H2 e (newX e C none)) dx (.xd [(f, v)])) e (newX e C (some dx))) E0 :=
    ⟨e, v, rfl, gv, upd_same, fun dx n1 n2 => ⟨rfl, dx, by rw [upd_ne n2] at n1; exact n1, n2, rfl⟩⟩
  have bd := hb ⟨h', g, d, tk, os⟩ [.ref e, u] I3.kIn rfl
  rw [List.append_nil] at bd
  refine wpAny_call (codeAny_mono (F.run _ _ _ _ ⟨[.ref e, u], []⟩ [.ref e, u] [.ref e, v] _ E0 (hr.make C [u] []) (I3.env0.make C [u] []) bd (.cons rfl (.cons ru .nil)) sp) fun res s4 z => ?_)
  cases res with
  | error ev => exact z.elim
  | ok fl =>
    cases fl with
    | next => exact z.elim
    | brk => exact z.elim
    | cont => exact z.elim
    | ret uv =>
      obtain ⟨x, H4, I4, rx, rfl, dx, n1, n2, rfl⟩ := I3.after z
      refine ⟨rx, e, ?_⟩
      have at4 := I4.hok e _ upd_same
      obtain ⟨⟨t4, g4⟩, _, _⟩ := at4
      have I5 := I4.untrack (e := e) upd_same
      have eH : cut (upd (upd (upd H2 e (newX e C none)) dx (.xd [(f, v)])) e (newX e C (some dx))) e = upd H2 dx (.xd [(f, v)]) := by
        funext b
        by_cases zb : b = e
        · rw [zb, cut_at, upd_ne (Ne.symm n2), fe]
        · rw [cut_ne zb, upd_ne zb]
          by_cases zd : b = dx
          · rw [zd, upd_same, upd_same]
          · rw [upd_ne zd, upd_ne zd, upd_ne zb]
      rw [eH] at I5
      refine ⟨t4, some dx, rfl, I4.kIn _ _ lC, g4, xe_made I5 g4 rfl rfl ?_ (by rw [upd_ne (Ne.symm n2)]; exact fe) (qq dx n1)⟩
      exact Heap.get?_none_of_le (Nat.le_trans I2.sz le)
end
end L2
end
section
set_option maxHeartbeats 4000001
namespace L2
open PySem PySem.Spec PyProof.Rows
theorem bx_bind (self : Value) : bindSpecial (.builtin "BaseException.__getattribute__") self = pure (.builtin "BaseException.__getattribute__", [self]) := by kernel_rfl
theorem bx_kind : builtinKind "BaseException.__getattribute__" = some .slot := by decide +kernel
theorem bx_split : splitId "BaseException.__getattribute__" = some ("BaseException", "__getattribute__") := by decide +kernel
theorem bx_plain : plainId "BaseException.__getattribute__" = true := by decide +kernel
section
variable {prog : Program} {w : World} {A : Around} {E : Value → Shared → Prop} {K : PySem.W.Frag} {s : Shared} {x C : Addr} {ox : Obj} {od : Option Obj} {name : Str} {tk : Tok}
theorem xg_run {Q : Value → Shared → Prop} (X : K.In s.heap) (I : PySem.W.InstAt s.heap x ox C od) (mb : PySem.W.mroIn K C (.type "BaseException") = some true) (r : Builtin.ObjectAttr.Found) (hf : PySem.W.findObj K C od name = some r)
    (h : match r with | .value v => Q v s | .bind g a => wpAny (model prog w) A.in1 (Builtin.ObjectAttr.bindTo g a (.ref x) (.ref C)) (fun fin s' => match fin with | .done (.ret v) => Q v s' | _ => False) E s | .missing => False) :
    wpAny (model prog w) A (boundAndCalled (.builtin "BaseException.__getattribute__") (.ref x) (.str name tk)) Q E s := by
  unfold boundAndCalled
  rw [bx_bind]
  refine wpAny_bind (wpAny_pure (wpAny_call ?_))
  have isB : PySem.W.Looks (model prog w) s.heap (isInstance (.ref x) (.type "BaseException")) true := I.type.andThen (PySem.W.looks_mroIn X mb)
  refine codeAny_call_builtin bx_plain PySem.F.entry_bexc_ga ?_
  have ck := @PySem.W.check_slot (model prog w) A.in1 E s "BaseException.__getattribute__" "BaseException" "__getattribute__" (.ref x) [.str name tk] []
  refine ck bx_kind bx_split isB (PySem.F.args_bexc_ga _ _) ?_
  delta Builtin.«object.__getattribute__»; skip
  have sa : slotArgs "__getattribute__" 1 ⟨[.ref x, .str name tk], []⟩ = pure (.ref x, [.str name tk]) := rfl
  show wpAny _ _ (slotArgs "__getattribute__" 1 ⟨[.ref x, .str name tk], []⟩ >>= _) _ _ _
  rw [sa]
  refine wpAny_bind (wpAny_pure (wpAny_bind (wpAny_pure ?_))); refine wpAny_bind (I.type _ _ _ _ (fun _ _ z => z) ?_)
  refine wpAny_bind (PySem.W.looks_find X I hf _ _ _ _ (fun _ _ z => z) ?_)
  cases r with
  | value v => exact wpAny_pure h
  | bind g a =>
    refine wpAny_mono h (fun fin s' z => ?_) fun _ _ z => z
    cases fin with
    | done f =>
      cases f with
      | ret v => exact z
      | next => exact z.elim
      | brk => exact z.elim
      | cont => exact z.elim
    | again c => exact z.elim
  | missing => exact h.elim
theorem xg_get {fill expr : Bool} {r : Builtin.ObjectAttr.Found} {Q : Value → Shared → Prop} (X : K.In s.heap) (I : PySem.W.InstAt s.heap x ox C od) (ga : PySem.W.findIn K (.ref C) "__getattribute__" = some (some (.builtin "BaseException.__getattribute__"))) (gh : PySem.W.findIn K (.ref C) "__getattr__" = some none) (mb : PySem.W.mroIn K C (.type "BaseException") = some true)
    (hf : PySem.W.findObj K C od name = some r)
    (h : match r with | .value v => wpAny (model prog w) A (handedOut v) Q E s | .bind g a => wpAny (model prog w) A.in1 (Builtin.ObjectAttr.bindTo g a (.ref x) (.ref C)) (fun fin s' => match fin with | .done (.ret v) => wpAny (model prog w) A (handedOut v) Q E s' | _ => False) (fun _ _ => False) s | .missing => False) :
    wpAny (model prog w) A (getAttrBy (.ref x) (.str name tk) fill expr) Q E s := by
  unfold getAttrBy
  refine wpAny_holding (wpAny_bind (I.type _ _ _ _ (fun _ _ z => z) (wpAny_bind (PySem.W.looks_findIn X ga _ _ _ _ (fun _ _ z => z) ?_))))
  show wpAny _ _ (if (true && Value.builtin "BaseException.__getattribute__" == Value.builtin "object.__getattribute__") = true then _ else _) _ _ _
  rw [if_neg (by decide)]
  unfold getAttrByItsOwn hookBefore
  show wpAny _ _ (typeLookup (.ref C) "__getattr__" >>= _) _ _ _
  refine wpAny_bind (PySem.W.looks_findIn X gh _ _ _ _ (fun _ _ z => z) ?_)
  refine wpAny_bind (wpAny_attempt (wpAny_holding ?_)); unfold callGetattribute
  show wpAny _ _ (if (expr && false) = true then _ else _) _ _ _
  rw [Bool.and_false, if_neg (by decide)]
  refine xg_run X I mb r hf ?_
  cases r with
  | value v => exact h
  | bind g a => exact wpAny_mono h (fun _ _ z => z) fun _ _ z => z.elim
  | missing => exact h
theorem xg_class {od : Obj} {Q : Option Value → Shared → Prop} (X : K.In s.heap) (I : PySem.W.InstAt s.heap x ox C (some od)) (ga : PySem.W.findIn K (.ref C) "__getattribute__" = some (some (.builtin "BaseException.__getattribute__"))) (gh : PySem.W.findIn K (.ref C) "__getattr__" = some none) (mb : PySem.W.mroIn K C (.type "BaseException") = some true) (mo : PySem.W.mroIn K C (.type "object") = some true)
    (hf : PySem.W.findObj K C (some od) "__class__" = some (.bind (.builtin "getset_descriptor.__get__") (.builtin "object.__class__"))) (h : Q (some (.ref C)) { s with toks := s.toks + 1 }) : wpAny (model prog w) A (getAttr? (.ref x) "__class__") Q E s := by
  unfold getAttr? getAttrBy?
  refine wpAny_bind (wpAny_mkText (wpAny_bind (wpAny_attempt ?_)))
  refine xg_get (s := { s with toks := s.toks + 1 }) X I ga gh mb hf ?_
  unfold Builtin.ObjectAttr.bindTo
  refine wpAny_bind (wpAny_holding (wpAny_call (PySem.W.class_get (s := { s with toks := s.toks + 1 }) X I mo ?_)))
  exact wpAny_pure (wpAny_pure (wpAny_pure h))
end
end L2
end
section
set_option maxHeartbeats 4000001
namespace L2
open PySem PySem.Spec PyProof.Rows
structure XIs (K : PySem.W.Frag) (C : Addr) : Prop where
  ga : PySem.W.findIn K (.ref C) "__getattribute__" = some (some (.builtin "BaseException.__getattribute__"))
  gh : PySem.W.findIn K (.ref C) "__getattr__" = some none
  mb : PySem.W.mroIn K C (.type "BaseException") = some true
  mo : PySem.W.mroIn K C (.type "object") = some true
  ca : PySem.W.findIn K (.ref C) "__class__" = some (some (.builtin "object.__class__"))
  gg : PySem.W.specialIn K (.builtin "object.__class__") "__get__" = some (some (.builtin "getset_descriptor.__get__"))
  gt : PySem.W.takesIn K (.builtin "object.__class__") = some true
  hd : PySem.W.hasDictIn K C = true
theorem cls_at {K : PySem.W.Frag} {C : Addr} {cd : ClassData} (e : PySem.W.clsIn K C = some cd) : ∃ a b c, K.lookup C = some ⟨a, b, .cls cd, c⟩ := by
  unfold PySem.W.clsIn at e
  split at e
  · rename_i a b cd' c hl
    obtain rfl := Option.some.inj e
    exact ⟨a, b, c, hl⟩
  · cases e
theorem kitx_exc {K : PySem.W.Frag} {e C : Addr} (Z : XIs K C) : PySem.W.KitX K (.ref e) (.ref C) (fun h => ∃ ox od, PySem.W.InstAt h e ox C (some od)) where
  ty := fun _ _ _ ⟨_, _, I⟩ => I.type
  it := fun M h X _ => by
    obtain ⟨cd, hc, _⟩ := PySem.W.any_some Z.hd
    obtain ⟨a, b, c, hl⟩ := cls_at hc
    exact (PySem.W.Looks.ld (X _ _ hl)).andThen .now
  ne := fun h tp dd its n sl X ht => by
    obtain ⟨cd, hc, _⟩ := PySem.W.any_some Z.hd
    obtain ⟨a, b, c, hl⟩ := cls_at hc
    refine beq_eq_false_iff_ne.mpr fun z => ?_
    obtain rfl := Value.ref.inj z
    rw [X _ _ hl] at ht
    cases ht
  ca := fun X ⟨ox, od, I⟩ q => xg_class X I Z.ga Z.gh Z.mb Z.mo (PySem.W.findObj_data (by
    obtain ⟨cd, hc, _⟩ := PySem.W.any_some Z.hd
    rw [hc]; rfl) Z.ca Z.gg Z.gt) q
section
variable {X : Cx} {pins : List (Addr × Obj)} {σ : St} {H : Hp} {s : Shared}
theorem exc_inst {e C dx : Addr} {fs : List (Str × V)} (I : Inv X pins σ H s) (he : H e = some (excO e C (some dx))) (hx : H dx = some (.xd fs)) : ∃ ox od, PySem.W.InstAt s.heap e ox C (some od) ∧ s.heap.get? dx = some od := by
  obtain ⟨⟨o, g, c, d, vs, dt⟩, _, _⟩ := I.hok e _ he
  obtain ⟨mA, ⟨od, es, ep, g2, _⟩, _⟩ := I.hok dx _ hx
  refine ⟨o, od, ⟨g, c, by unfold PySem.W.notCls; rw [dt], by rw [d]; exact g2⟩, g2⟩
def rIsiX (K : PySem.W.Frag) : List V → Hp → VK → Prop := fun vs H Q => ∃ e C dx fs c k, vs = [.ref e, c] ∧ XIs K C ∧ H e = some (excO e C (some dx)) ∧ H dx = some (.xd fs) ∧
  ((∃ T, c = .ty T ∧ PySem.W.kitOne K (.ref C) (.type T) = some k) ∨ (∃ D, c = .ref D ∧ PySem.W.kitOne K (.ref C) (.ref D) = some k) ∨ ∃ (tp : Addr) (Ds : List Addr), c = .ref tp ∧ H tp = some (.tup (Ds.map V.ref)) ∧ PySem.W.kitAny K (.ref C) (Ds.map Value.ref) = some k) ∧ Q (.bl k) H
theorem vals_refs : ∀ {Ds : List Addr} {us : List Value}, Vals (Ds.map V.ref) us → us = Ds.map Value.ref
  | [], _, r => by cases r; rfl
  | D :: Ds, _, r => by
    cases r with
    | cons p r => rw [show _ = Value.ref D from p, vals_refs r]; rfl
theorem call_isiX : CallR X (.builtin "isinstance") (rIsiX X.K) := by
  intro pins s σ H vs us Q I rv h
  obtain ⟨e, C, dx, fs, c, k, rfl, Z, he, hx, hc, q⟩ := h
  obtain ⟨u, v, rfl, ru, rc⟩ := rv.two
  obtain rfl : u = Value.ref e := ru
  obtain ⟨ox, od, J, _⟩ := exc_inst I he hx
  rcases hc with ⟨T, rfl, hk⟩ | ⟨D, rfl, hk⟩ | ⟨tp, Ds, rfl, ht, hk⟩
  · obtain rfl : v = Value.type T := rc
    exact PySem.W.kia_one (kitx_exc Z) I.kIn ⟨ox, od, J⟩ hk (fun z => nomatch z) fun tk => ⟨.bl k, H, I.tok tk, rfl, q⟩
  · obtain rfl : v = Value.ref D := rc
    exact PySem.W.kia_one (kitx_exc Z) I.kIn ⟨ox, od, J⟩ hk (fun z => nomatch z) fun tk => ⟨.bl k, H, I.tok tk, rfl, q⟩
  · obtain rfl : v = Value.ref tp := rc
    obtain ⟨_, its, r, ot, g, oc, n, od', _⟩ := I.hok tp _ ht
    obtain rfl := vals_refs r
    obtain ⟨c1, d1, dt1, sl1⟩ := ot
    obtain rfl : c1 = .type "tuple" := oc
    obtain rfl : dt1 = .seq (Ds.map Value.ref).toArray n := od'
    exact PySem.W.kia_tup (kitx_exc Z) I.kIn ⟨ox, od, J⟩ g hk (fun z => nomatch z) fun tk => ⟨.bl k, H, I.tok tk, rfl, q⟩
def tXFld (K : PySem.W.Frag) (ta : TE) (f : Str) : TE := fun σ H Q => ta σ H fun x H1 => ∃ e C dx fs v, x = .ref e ∧ XIs K C ∧ H1 e = some (excO e C (some dx)) ∧ H1 dx = some (.xd fs) ∧ PySem.W.findIn K (.ref C) f = some none ∧ fs.lookup f = some v ∧ Q v H1
theorem pe_xfld {o : Expr} {f : Str} {pos : Pos} {ta : TE} (he : PE X o ta) (hb : attributeBase o f X.env (eval o X.env) = eval o X.env := by rfl) : PE X (.Attribute o f pos) (tXFld X.K ta f) := by
  intro pins s σ H Q I h
  refine attr_of hb (thn (he pins s σ H _ I h) fun u s1 ⟨x, H1, I1, rx, e, C, dx, fs, v, ex, Z, ee, ed, hf, hl, q⟩ => ?_)
  subst ex
  obtain rfl : u = Value.ref e := rx
  obtain ⟨ox, od, J, hod⟩ := exc_inst I1 ee ed
  obtain ⟨mA, ns, r⟩ := I1.hok dx _ ed
  obtain ⟨od', hod', look⟩ := lookIn_ns ns
  obtain rfl : od = od' := Option.some.inj (hod.symm.trans hod')
  obtain ⟨u, hu, ru⟩ := RelO.some_of (v := v) (o := mA f) (by rw [← hl]; exact r f)
  refine wpAny_bind (wpAny_mkText (xg_get (s := { s1 with toks := s1.toks + 1 }) (r := .value u) I1.kIn J Z.ga Z.gh Z.mb (PySem.W.findObj_own Z.hd hf rfl (by rw [look f, hu])) ?_))
  exact PySem.W.handed_on (handed_of ru) ⟨v, H1, I1.tok _, ru, q⟩
end
end L2
end
section
set_option maxHeartbeats 4000001
namespace K77
open PySem L2 Own Bn
abbrev sXInit : Stmt := inClass (top 4) 0
def goodX (v : V) : Prop := ∃ n : Nat, v = .int (n : Nat) ∧ n ≤ 1000
theorem fits_row {n : Nat} (h : n ≤ 1000) : ((n : Nat) : Int).natAbs.log2 < 1920 := by
  by_cases z : ((n : Nat) : Int).natAbs = 0
  · rw [z]; decide
  · exact (Nat.log2_lt z).mpr (Nat.lt_of_le_of_lt (show ((n : Nat) : Int).natAbs ≤ 1000 by lia) (by decide))
section
variable {P : Program} {w : World} {K : PySem.W.Frag} {mg : Str → Option Value} {base : Heap}
theorem scXi : FnScope ["self", "row"] ["self", "row"] (defScope sXInit) := ⟨rfl, rfl, rfl, by decide +kernel, rfl, by decide +kernel, by decide +kernel⟩
theorem ok_xinit {f C L : Addr} {fd : FuncData} (F : Fun K "__init__" "NoText.__init__" sXInit f fd) (B : XBase K L) (O : XOwn K C L f) (mL : mg "LaneError" = some (.ref L)) (na : PySem.W.findIn K (.ref C) "row" = some none) : FnOk P w K mg base CX0 1 f fd ["self", "row"] (spXI C "row" goodX) := by
  refine F.ok scXi (fun vs H Q E h => ?_) (fun cdv A outer s H vs Q E hr h => ?_)
  · obtain ⟨e, v, rfl, _⟩ := h
    rfl
  obtain ⟨e, v, rfl, ⟨n, rfl, hn⟩, he, k⟩ := h
  refine ⟨_, (@pss_cons _ _ _ _ _ (@ps_expr _ _ _ _ (pe_xinit (C := C) (fI := f) B O rfl mL (@pa_cons _ _ _ _ _ (@pv _ 0 _ _ (by rfl) (by first | exact Or.inl rfl | exact Or.inr (Or.inl rfl) | exact Or.inr (Or.inr rfl)) (by decide) (by decide)) (@pa_cons _ _ _ _ _ (@pe_fstr _ _ _ _ _ _ (pfs_str (pfs_int (@pv _ 1 _ _ (by rfl) (by first | exact Or.inl rfl | exact Or.inr (Or.inl rfl) | exact Or.inr (Or.inr rfl)) (by decide) (by decide)) pfs_nil))) pa_nil (by rfl)) (by rfl))) (by rfl)) (@pss_one _ _ _ (ps_xset (f := "row") O na (@pv _ 0 _ _ (by rfl) (by first | exact Or.inl rfl | exact Or.inr (Or.inl rfl) | exact Or.inr (Or.inr rfl)) (by decide) (by decide)) (@pv _ 1 _ _ (by rfl) (by first | exact Or.inl rfl | exact Or.inr (Or.inl rfl) | exact Or.inr (Or.inr rfl)) (by decide) (by decide))))), ?_⟩
  have e0 : Str.empty.length = 0 := rfl
  have ls := txt_small (n := n) hn
  refine ⟨_, rfl, by decide, _, rfl, (n : Nat), rfl, fits_row hn, ?_, ?_⟩
  · rw [Str.length_append, e0, (by decide : (Str.ofString "not written as told in row ").length = 27), sizeLine_eq]; lia
  refine ⟨e, _, none, rfl, he, ?_⟩
  refine ⟨_, rfl, _, rfl, e, rfl, he, fun dx n1 n2 => k dx n1 n2⟩
end
end K77
end
section
set_option maxHeartbeats 4000001
namespace Bn
open PySem L2 Own
theorem deep_flat {K : PySem.W.Frag} {H : Hp} {i : Int} : ∀ n, Deep K H n (.int i)
  | 0 => ⟨_, .int i, _, rfl⟩
  | _ + 1 => ⟨⟨_, .int i, _, rfl⟩, fun xs e => by cases e⟩
theorem deep_row {K : PySem.W.Frag} {H : Hp} {a : Addr} {xs : List V} {n : Nat} (h : H a = some (.tup xs)) (l : xs.length ≤ 1000) (d : ∀ y ∈ xs, Deep K H n y) : Deep K H (n + 1) (.ref a) :=
  ⟨⟨_, .tup h, _, rfl⟩, fun ys ey => by
    rw [rowOf_tup h] at ey
    obtain rfl := Option.some.inj ey
    exact ⟨l, d⟩⟩
theorem deep_fork {K : PySem.W.Frag} {H : Hp} {n : Nat} : ∀ {ps : List V} {fs : List (Nat × Nat)}, Prs H ps fs → ∀ y ∈ ps, Deep K H (n + 1) y
  | [], [], _, y, hy => by simp at hy
  | _ :: _, _ :: _, ⟨⟨a, e, h⟩, r⟩, y, hy => by
    rcases List.mem_cons.mp hy with rfl | z
    · subst e
      exact deep_row h (by show 2 ≤ 1000; decide) fun y hy => by
        simp only [List.mem_cons, List.mem_nil_iff, or_false] at hy
        rcases hy with rfl | rfl <;> exact deep_flat n
    · exact deep_fork r y z
theorem net_deep {K : PySem.W.Frag} {H : Hp} {r fr er : Addr} {ps : List V} {N : Nt} (ok : N.Ok) (na : NetAt H r fr er ps N) : Deep K H 3 (.ref r) := by
  have fm := ok.fm
  have pl := na.prs.len
  have el : N.ends.length = N.lanes := by rw [ok.en.length_eq, List.length_range]
  have l16 := ok.l16
  refine deep_row na.net (by show 3 ≤ 1000; decide) fun y hy => ?_
  simp only [List.mem_cons, List.mem_nil_iff, or_false] at hy
  rcases hy with rfl | rfl | rfl
  · exact deep_flat _
  · exact deep_row na.forks (by lia) (deep_fork na.prs)
  · refine deep_row na.ends (by unfold nums; rw [List.length_map]; lia) fun y hy => ?_
    obtain ⟨i, _, rfl⟩ := List.mem_map.mp hy
    exact deep_flat _
theorem forks_true {H : Hp} {b : Nat} : ∀ {ps : List V} {fs : List (Nat × Nat)}, Prs H ps fs → (∀ f ∈ fs, f.1 < b ∧ f.2 < b ∧ f.1 ≠ f.2) → ps.all (forkV H b) = true
  | [], [], _, _ => rfl
  | _ :: _, f :: _, ⟨⟨a, e, h⟩, r⟩, ok => by
    rw [List.all_cons, forks_true r fun g hg => ok g (List.mem_cons_of_mem _ hg), Bool.and_true]
    obtain ⟨o1, o2, o3⟩ := ok f List.mem_cons_self
    unfold forkV
    rw [e, rowOf_tup h]
    show (belowV b (.int f.1) && (belowV b (.int f.2) && !decide (V.int f.1 = V.int f.2))) = true
    have e1 : belowV b (.int f.1) = true := by
      show (decide (0 ≤ (f.1 : Int)) && decide ((f.1 : Int) < b)) = true
      rw [decide_eq_true (by lia), decide_eq_true (by lia)]; rfl
    have e2 : belowV b (.int f.2) = true := by
      show (decide (0 ≤ (f.2 : Int)) && decide ((f.2 : Int) < b)) = true
      rw [decide_eq_true (by lia), decide_eq_true (by lia)]; rfl
    rw [e1, e2, decide_eq_false (fun z => o3 (by have := V.int.inj z; lia))]; rfl
theorem net_true {H : Hp} {r fr er : Addr} {ps : List V} {N : Nt} (ok : N.Ok) (na : NetAt H r fr er ps N) : netV H (.ref r) = true := by
  have fm := ok.fm
  have l16 := ok.l16
  have l1 := ok.l1
  have pl := na.prs.len
  have el : N.ends.length = N.lanes := by rw [ok.en.length_eq, List.length_range]
  unfold netV
  rw [rowOf_tup na.net]
  show ((decide (1 ≤ (N.lanes : Int)) && decide ((N.lanes : Int) ≤ 16)) && (forksV H N.lanes (.ref fr) && lanesV H N.lanes (.ref er))) = true
  rw [decide_eq_true (by lia), decide_eq_true (by lia), Bool.true_and, Bool.true_and]
  have e1 : forksV H N.lanes (.ref fr) = true := by
    unfold forksV
    rw [rowOf_tup na.forks]
    show (decide ((ps.length : Int) ≤ 128) && ps.all (forkV H N.lanes)) = true
    rw [decide_eq_true (by lia), forks_true na.prs ok.fk]; rfl
  have e2 : lanesV H N.lanes (.ref er) = true := by
    unfold lanesV
    rw [rowOf_tup na.ends]
    show ((decide (((nums N.ends).length : Int) = N.lanes) && (nums N.ends).all (belowV N.lanes)) && (List.range (N.lanes : Int).toNat).all (fun (i : Nat) => inV (V.int i) (nums N.ends))) = true
    have e3 : (nums N.ends).all (belowV N.lanes) = true := List.all_eq_true.mpr fun y hy => by
      obtain ⟨i, hi, rfl⟩ := List.mem_map.mp hy
      have := List.mem_range.mp (ok.en.mem_iff.mp hi)
      show (decide (0 ≤ (i : Int)) && decide ((i : Int) < N.lanes)) = true
      rw [decide_eq_true (by lia), decide_eq_true (by lia)]; rfl
    have e4 : (List.range (N.lanes : Int).toNat).all (fun (i : Nat) => inV (V.int i) (nums N.ends)) = true := List.all_eq_true.mpr fun i hi => by
      have h1 := List.mem_range.mp hi
      have h2 : i ∈ N.ends := ok.en.mem_iff.mpr (List.mem_range.mpr (by lia))
      unfold inV
      exact List.any_eq_true.mpr ⟨.int i, List.mem_map.mpr ⟨i, h2, rfl⟩, decide_eq_true rfl⟩
    rw [e3, e4, decide_eq_true (by unfold nums; rw [List.length_map]; lia)]; rfl
  rw [e1, e2]; rfl
theorem deq_two {K : PySem.W.Frag} {H : Hp} {n : Nat} {a b : Addr} {xs : List V} (h1 : H a = some (.tup xs)) (h2 : H b = some (.tup xs)) (f : ∀ x ∈ xs, flatV x = true) : DEq K H (n + 1) (.ref a) (.ref b) :=
  .inr ⟨a, b, xs, xs, rfl, rfl, SqT.of h1, SqT.of h2, rfl, fun i u v hu hv => by
    rw [hu] at hv
    obtain rfl := Option.some.inj hv
    have := f u (List.mem_of_getElem? hu)
    cases n
    · exact ⟨rfl, this⟩
    · exact .inl ⟨rfl, this⟩⟩
theorem deq_net {K : PySem.W.Frag} {H : Hp} {r fr er r' fr' er' : Addr} {ps ps' : List V} {N : Nt} (na : NetAt H r fr er ps N) (nb : NetAt H r' fr' er' ps' N) :
    ∀ (i : Nat) (u v : V), ([V.int N.lanes, .ref fr, .ref er] : List V)[i]? = some u → ([V.int N.lanes, .ref fr', .ref er'] : List V)[i]? = some v → DEq K H 2 u v := fun i u v hu hv => by
  rcases i with _ | _ | _ | i
  · cases hu; cases hv; exact .inl ⟨rfl, rfl⟩
  · cases hu; cases hv
    refine .inr ⟨fr, fr', ps, ps', rfl, rfl, SqT.of na.forks, SqT.of nb.forks, by rw [na.prs.len, nb.prs.len], fun j x y hx hy => ?_⟩
    obtain ⟨g, f, rfl, ef, hg⟩ := na.prs.get hx
    obtain ⟨g', f', rfl, ef', hg'⟩ := nb.prs.get hy
    rw [ef] at ef'
    obtain rfl := Option.some.inj ef'
    refine deq_two (n := 0) hg hg' fun x hx => ?_
    simp only [List.mem_cons, List.mem_nil_iff, or_false] at hx
    rcases hx with rfl | rfl <;> rfl
  · cases hu; cases hv
    refine deq_two (n := 1) na.ends nb.ends fun x hx => ?_
    obtain ⟨i, _, rfl⟩ := List.mem_map.mp hx
    rfl
  · simp at hu
end Bn
end
section
set_option maxHeartbeats 4000001
namespace L2
open PySem PySem.Spec PyProof.Rows Own
end L2
namespace Bn
open PySem L2 Own
section
variable {n s p c u : Addr}
end
end Bn
end
section
set_option maxHeartbeats 4000001
namespace L2
open PySem
end L2
namespace Bn
open PySem L2 Own
end Bn
end
section
set_option maxHeartbeats 4000001
namespace Bn
open PySem L2 Own
end Bn
end
section
set_option maxHeartbeats 4000001
namespace Bn
open PySem L2 Own
end Bn
end
section
set_option maxHeartbeats 4000001
namespace Bn
open PySem L2 Own
end Bn
end
section
set_option maxHeartbeats 4000001
namespace Bn
open PySem L2 Own
def dN (q : Nat → Bool) : Nat → Nat
  | 0 => 0
  | n + 1 => dN q n + (if q n = true then 1 else 0)
def hasG (gs : List Grp) (j l : Nat) : Bool := gs.any fun g => decide (g.fork = j ∧ g.lane = l)
def later (N : Nt) (j : Nat) : Nat := if j < N.forks.length then 2 * (N.forks.length - 1 - j) + N.lanes else 0
def far (N : Nt) (gs : List Grp) (j : Nat) : Nat := later N j + dN (hasG gs j) N.lanes
end Bn
end
section
set_option maxHeartbeats 4000001
namespace Bn
open PySem L2 Own
end Bn
end
section
set_option maxHeartbeats 4000001
namespace L2
open PySem PySem.Spec PyProof.Rows
section
variable {P : Program} {w : World} {K : PySem.W.Frag} {mg : Str → Option Value} {base : Heap} {k : Nat} {f : Addr} {fd : FuncData} {ps : List Str}
theorem FnOk.or {C : CXT} {sp sq : Sp} (a : FnOk P w K mg base C k f fd ps sp) (b : FnOk P w K mg base C k f fd ps sq) : FnOk P w K mg base C k f fd ps (fun vs H Q E => sp vs H Q E ∨ sq vs H Q E) :=
  ⟨fun vs H Q E h => h.elim (a.len vs H Q E) (b.len vs H Q E), fun A outer s H args us vs Q E hr he hb rv h => h.elim (a.run A outer s H args us vs Q E hr he hb rv) (b.run A outer s H args us vs Q E hr he hb rv)⟩
theorem FnOk.lift {C : CXT} {sp : Sp} (a : FnOk P w K mg base CX0 k f fd ps sp) : FnOk P w K mg base C k f fd ps sp :=
  ⟨a.len, fun A outer s H args us vs Q E hr he hb rv h => codeAny_mono (a.run A outer s H args us vs Q E hr he hb rv h) fun res s' z => by
    cases res with
    | error e => exact z.elim
    | ok fl => cases fl <;> exact z⟩
end
end L2
end
section
set_option maxHeartbeats 4000001
namespace K77
open PySem L2 Own Bn
abbrev sLanesIn : Stmt := top 25
abbrev sForksIn : Stmt := top 26
abbrev sEndsIn : Stmt := top 27
abbrev sReadN : Stmt := top 24
theorem s_sp : Str.ofString " " = ⟨#[32]⟩ := by decide
theorem s_nl : Str.ofString "\n" = sNl := by decide
def valN : Option Nat → V
  | some n => .int (n : Nat)
  | none => .non
def spLanesZ : Sp := fun vs H Q _ => ∃ r : Str, vs = [.str r] ∧ RB 10 r ∧ ∀ H', Same H H' → Q (valN (lanesOf r)) H'
def spForksZ : Sp := fun vs H Q _ => ∃ (n : Nat) (l : Addr) (rs : List Str), vs = [.int (n : Nat), .ref l] ∧ H l = some (.lst (rs.map V.str)) ∧ n ≤ 16 ∧ rs.length ≤ 1000 ∧ (∀ r ∈ rs, RB 10 r) ∧ ∀ q ps H', Same H H' → H' q = some (.lst ps) → Prs H' ps (preR n (rs.take 128)) → Q (.ref q) H'
def spEndsZ : Sp := fun vs H Q _ => ∃ (n : Nat) (r : Str), vs = [.int (n : Nat), .str r] ∧ 1 ≤ n ∧ n ≤ 16 ∧ RB 10 r ∧ (endsOf n r = none → ∀ H', Same H H' → Q .non H') ∧ ∀ es, endsOf n r = some es → ∀ p H', Same H H' → H' p = some (.tup (nums es)) → Q (.ref p) H'
theorem deep_val {K : PySem.W.Frag} {H : Hp} (o : Option Int) : Deep K H 0 (valO o) := by
  cases o with
  | some n => exact ⟨_, .int n, _, rfl⟩
  | none => exact ⟨_, .non, _, rfl⟩
theorem deep_vals {K : PySem.W.Frag} {H : Hp} {p : Addr} {os : List (Option Int)} (h : H p = some (.tup (os.map valO))) (l : os.length ≤ 1000) : Deep K H 1 (.ref p) :=
  deep_row h (by rw [List.length_map]; exact l) fun y hy => by
    obtain ⟨o, _, rfl⟩ := List.mem_map.mp hy
    exact deep_val o
theorem below_val (n : Nat) (o : Option Int) : belowV (n : Nat) (valO o) = belowO n o := by cases o <;> rfl
theorem fork_val {H : Hp} {p : Addr} {os : List (Option Int)} {n : Nat} (h : H p = some (.tup (os.map valO))) : forkV H (n : Nat) (.ref p) = (forkO n os).isSome := by
  unfold forkV
  rw [rowOf_tup h]
  match os with
  | [] => rfl
  | [_] => cases ‹Option Int› <;> rfl
  | [a, b] =>
    show (belowV (n : Nat) (valO a) && (belowV (n : Nat) (valO b) && !decide (valO a = valO b))) = _
    rw [below_val, below_val]
    cases a with
    | none => rfl
    | some i =>
      cases b with
      | none => show (belowO n (some i) && (false && _)) = _; rw [Bool.false_and, Bool.and_false]; rfl
      | some j =>
        have e : decide (valO (some i) = valO (some j)) = decide (i = j) := decide_eq_decide.mpr ⟨fun z => V.int.inj z, fun z => by rw [z]⟩
        rw [e]
        unfold forkO
        dsimp only
        cases z : (belowO n (some i) && (belowO n (some j) && !decide (i = j))) with
        | true => rw [if_pos rfl]; rfl
        | false => rw [if_neg (by decide)]; rfl
  | a :: b :: c :: t =>
    have : forkO n (a :: b :: c :: t) = none := by cases a <;> cases b <;> rfl
    rw [this]; rfl
theorem in_val (i : Int) : ∀ os : List (Option Int), inV (V.int i) (os.map valO) = os.contains (some i)
  | [] => rfl
  | o :: os => by
    have ih := in_val i os
    unfold inV at ih ⊢
    rw [List.map_cons, List.any_cons, ih, List.contains_cons]
    congr 1
    cases o with
    | none => rfl
    | some j =>
      by_cases e : j = i
      · subst e; simp [eqV, valO]
      · have e' : ¬ i = j := fun z => e z.symm
        simp [eqV, valO, beq_false_of_ne e, beq_false_of_ne e']
theorem lanes_val {H : Hp} {p : Addr} {os : List (Option Int)} {n : Nat} (h : H p = some (.tup (os.map valO))) : lanesV H (n : Nat) (.ref p) = allL n os := by
  unfold lanesV allL
  rw [rowOf_tup h]
  show ((decide (((os.map valO).length : Int) = (n : Nat)) && (os.map valO).all (belowV (n : Nat))) && (List.range ((n : Nat) : Int).toNat).all (fun (i : Nat) => inV (V.int i) (os.map valO))) = _
  rw [List.length_map, List.all_map, show ((n : Nat) : Int).toNat = n by lia]
  congr 1
  · congr 1
    · exact decide_eq_decide.mpr ⟨fun z => by lia, fun z => by lia⟩
    · exact congrArg _ (funext fun o => below_val n o)
  · exact congrArg _ (funext fun i => in_val i os)
theorem cut_any (xs : List V) (i : Nat) : cutV xs none (some (i : Int)) = xs.take i := by
  unfold cutV
  rw [HT.sIx_none, HT.sIx_nat, List.drop_zero, Nat.sub_zero]
  by_cases h : i ≤ xs.length
  · rw [Nat.min_eq_left h]
  · rw [Nat.min_eq_right (by lia), List.take_length, List.take_of_length_le (by lia)]
theorem RB.words {r : Str} (h : RB 10 r) : ∀ a ∈ wsR r, AscW a := fun a ha => ⟨h.asc a ha, by have := h.2.2 a ha; lia⟩
section
variable {P : Program} {w : World} {K : PySem.W.Frag} {mg : Str → Option Value} {base : Heap}
theorem scLi : FnScope ["row", "word", "rest", "lanes"] ["row"] (defScope sLanesIn) := ⟨rfl, rfl, rfl, by decide +kernel, rfl, by decide +kernel, by decide +kernel⟩
theorem ok_lanesz {f fN : Addr} {fd dN : FuncData} {tk : Tok} (F : Fun K "lanes_in" "lanes_in" sLanesIn f fd) (G : Mgs mg) (hM : mg "MOST_LANES" = some (.int 16 tk)) (UN : Use P w K mg base "number_in" ["word"] 1 spNumZ fN dN) : FnOk P w K mg base CX0 2 f fd ["row"] spLanesZ := by
  refine F.ok scLi (fun vs H Q E h => ?_) (fun cdv A outer s H vs Q E hr h => ?_)
  · obtain ⟨r, rfl, _⟩ := h
    rfl
  obtain ⟨r, rfl, rb, k⟩ := h
  refine ⟨_, (@pss_cons _ _ _ _ _ (@ps_asg _ _ _ _ _ _ (@pe_bm _ _ _ _ _ _ _ _ _ _ _ _ PySem.F.plainAttrs_str PySem.F.slot_str_split PySem.F.type_str_split mt_split (@pv _ 0 _ _ (by rfl) (by first | exact Or.inl rfl | exact Or.inr (Or.inl rfl) | exact Or.inr (Or.inr rfl)) (by decide) (by decide)) (@pa_cons _ _ _ _ _ pe_str pa_nil (by rfl)) (by rfl) (by rfl) (by rfl) (by rfl) (by rfl)) (@pg_star _ _ _ _ _ _ _ rfl (@pgs_cons _ _ _ _ _ (@pg_name _ _ 1 _ scLi.nd rfl (Or.inl rfl) (by first | exact .inl rfl | exact .inr rfl | assumption)) (@pgs_cons _ _ _ _ _ (@pg_name _ _ 2 _ scLi.nd rfl (Or.inl rfl) (by first | exact .inl rfl | exact .inr rfl | assumption)) pgs_nil (by rfl)) (by rfl)) (by rfl) (by rfl)) (by rfl) (by rfl) (by rfl)) (@pss_cons _ _ _ _ _ (@ps_if _ _ _ _ _ _ _ _ (@pw_or _ _ _ _ _ _ _ (@pt_cmpR _ _ _ _ _ _ _ _ op_ne (@pv _ 1 _ _ (by rfl) (by first | exact Or.inl rfl | exact Or.inr (Or.inl rfl) | exact Or.inr (Or.inr rfl)) (by decide) (by decide)) pe_str (nomark _)) (@pw_or1 _ _ _ _ (@pt_cmpR _ _ _ _ _ _ _ _ op_ne (@pe_callB _ _ _ _ _ _ _ _ _ call_len_seq (by rfl) G.len PySem.boot_len (@pa_cons _ _ _ _ _ (@pv _ 2 _ _ (by rfl) (by first | exact Or.inl rfl | exact Or.inr (Or.inl rfl) | exact Or.inr (Or.inr rfl)) (by decide) (by decide)) pa_nil (by rfl)) (by decide) (by decide) (by rfl) (by rfl)) pe_int (nomark _)))).pt (@pss_one _ _ _ (@ps_ret _ _ _ _ pe_non)) pss_nil) (@pss_cons _ _ _ _ _ (@ps_set _ _ 3 _ _ _ _ scLi.nd rfl (Or.inl rfl) (@pe_call _ _ _ _ _ _ _ _ _ _ _ _ _ _ _ _ UN.ok hr (by rfl) UN.m UN.kp UN.b .nil pass0 (@pa_cons _ _ _ _ _ (@pe_ix _ _ _ _ _ _ _ ix_list (@pv _ 2 _ _ (by rfl) (by first | exact Or.inl rfl | exact Or.inr (Or.inl rfl) | exact Or.inr (Or.inr rfl)) (by decide) (by decide)) pe_int (fun _ _ => rfl)) pa_nil (by rfl)) (by decide) (by rfl) (by rfl)) (by rfl) (by first | exact .inl rfl | exact .inr rfl | assumption)) (@pss_cons _ _ _ _ _ (@ps_if _ _ _ _ _ _ _ _ (@pw_or _ _ _ _ _ _ _ (@pt_cmpR _ _ _ _ _ _ _ _ op_isN (@pv _ 3 _ _ (by rfl) (by first | exact Or.inl rfl | exact Or.inr (Or.inl rfl) | exact Or.inr (Or.inr rfl)) (by decide) (by decide)) pe_non (by rfl)) (@pw_or1 _ _ _ _ (@pt_not _ _ _ _ (@pt_chain _ _ _ _ _ _ _ _ _ _ _ _ op_le op_le pe_int (@pv _ 3 _ _ (by rfl) (by first | exact Or.inl rfl | exact Or.inr (Or.inl rfl) | exact Or.inr (Or.inr rfl)) (by decide) (by decide)) (@pe_glob _ _ (.int 16) _ _ (by rfl) @hM ⟨_, rfl⟩ (by decide)) (by with_unfolding_all rfl))))).pt (@pss_one _ _ _ (@ps_ret _ _ _ _ pe_non)) pss_nil) (@pss_one _ _ _ (@ps_ret _ _ _ _ (@pv _ 3 _ _ (by rfl) (by first | exact Or.inl rfl | exact Or.inr (Or.inl rfl) | exact Or.inr (Or.inr rfl)) (by decide) (by decide)))))))), ?_⟩
  have ll := rb.len (by decide)
  have wl : (wordsC 32 r).length ≤ 17 + 10 := rb.2.1
  refine ⟨_, rfl, rfl, _, _, rfl, rfl, rfl, by rw [sizeLine_eq]; lia, fun l hl => ?_⟩
  rw [s_sp, split_words]
  have ws : ∀ a ∈ wordsC 32 r, AscW a := RB.words rb
  unfold lanesOf at k
  change ∀ H', Same H H' → Q (valN (match wordsC 32 r with | [a, b] => _ | _ => _)) H' at k
  have ne := words_ne 32 r
  generalize wordsC 32 r = zs at k ne wl ws ⊢
  cases zs with
  | nil => exact absurd rfl ne
  | cons a t =>
  have s1 := same_new hl (.lst ((a :: t).map V.str))
  refine ⟨l, _, _, rfl, SqL.of upd_same, fun l2 hl2 => ⟨_, _, rfl, _, _, rfl, rfl, ?_⟩⟩
  have s2 := same_new hl2 (.lst (t.map V.str))
  refine ⟨_, rfl, rfl, _, rfl, ?_⟩
  by_cases ea : a = Str.ofString "lanes"
  · subst ea
    rw [decide_eq_true rfl]
    refine iteF ⟨_, rfl, l2, _, rfl, .inl (SqL.of upd_same), rfl, _, rfl, ?_⟩
    rw [List.length_map]
    by_cases el : t.length = 1
    · obtain ⟨b, rfl⟩ : ∃ b, t = [b] := by
        cases t with
        | nil => cases el
        | cons b t' => cases t' with
          | nil => exact ⟨b, rfl⟩
          | cons c t'' => simp at el
      refine iteNS rfl ⟨_, rfl, l2, _, _, _, rfl, rfl, SqL.of upd_same, rfl, b, rfl, ws b (by simp), fun H3 s3 => ?_⟩
      dsimp only at k
      rw [if_pos rfl] at k
      refine ⟨_, rfl, rfl, _, rfl, ?_⟩
      cases eb : numO b with
      | none =>
        rw [eb] at k
        exact iteT (k H3 ((s1.trans s2).trans s3))
      | some n =>
        rw [eb] at k
        dsimp only at k
        refine iteF ⟨_, rfl, _, _, rfl, rfl, _, rfl, ?_⟩
        by_cases n1 : 1 ≤ n
        · rw [decide_eq_true n1]
          refine iteT ⟨_, _, rfl, rfl, _, rfl, ?_⟩
          by_cases n16 : n ≤ 16
          · rw [decide_eq_true n16]
            rw [if_pos ⟨n1, n16⟩] at k
            have k' := k H3 ((s1.trans s2).trans s3)
            change Q (V.int ((n.toNat : Nat) : Int)) H3 at k'
            rw [Int.toNat_of_nonneg (by lia)] at k'
            exact iteF ⟨_, rfl, k'⟩
          · rw [decide_eq_false n16]
            rw [if_neg (fun z => n16 z.2)] at k
            exact iteT (k H3 ((s1.trans s2).trans s3))
        · rw [decide_eq_false n1]
          rw [if_neg (fun z => n1 z.1)] at k
          exact iteF ⟨_, rfl, iteT (k H3 ((s1.trans s2).trans s3))⟩
    · have k' : ∀ H', Same H H' → Q .non H' := by
        cases t with
        | nil => exact k
        | cons b t' => cases t' with
          | nil => exact absurd rfl el
          | cons c t'' => exact k
      rw [decide_eq_false (fun z => el (by have := V.int.inj z; lia))]
      exact iteT (k' _ (s1.trans s2))
  · rw [decide_eq_false (fun z => ea (V.str.inj z))]
    have k' : ∀ H', Same H H' → Q .non H' := by
      cases t with
      | nil => exact k
      | cons b t' => cases t' with
        | nil => dsimp only at k; rw [if_neg ea] at k; exact k
        | cons c t'' => exact k
    exact iteT (k' _ (s1.trans s2))
theorem take_get {rs : List Str} {j : Nat} {x : V} (h : ((rs.map V.str).take 128)[j]? = some x) : j < 128 ∧ ∃ r, rs[j]? = some r ∧ x = .str r := by
  have jl := (List.getElem?_eq_some_iff.mp h).1
  rw [List.length_take] at jl
  rw [List.getElem?_take_of_lt (by lia), List.getElem?_map] at h
  cases e : rs[j]? with
  | none => rw [e] at h; cases h
  | some r => rw [e] at h; exact ⟨by lia, r, rfl, (Option.some.inj h).symm⟩
theorem scFi : FnScope ["lanes", "rows", "forks", "row", "fork"] ["lanes", "rows"] (defScope sForksIn) := ⟨rfl, rfl, rfl, by decide +kernel, rfl, by decide +kernel, by decide +kernel⟩
theorem ok_forksz {f fN fF : Addr} {fd dN dF : FuncData} {tk : Tok} (F : Fun K "forks_in" "forks_in" sForksIn f fd) (G : Mgs mg) (hM : mg "MOST_FORKS" = some (.int 128 tk)) (UN : Use P w K mg base "numbers_in" ["words"] 2 spNumsZ fN dN) (UF : Use P w K mg base "is_fork" ["lanes", "thing"] 3 (spIsFork K) fF dF) : FnOk P w K mg base CX0 4 f fd ["lanes", "rows"] spForksZ := by
  refine F.ok scFi (fun vs H Q E h => ?_) (fun cdv A outer s H vs Q E hr h => ?_)
  · obtain ⟨n, l, rs, rfl, _⟩ := h
    rfl
  obtain ⟨n, l, rs, rfl, hl, n16, r9, rok, k⟩ := h
  have hr2 : Room 2 _ := hr.mono (by decide)
  refine ⟨_, (@pss_cons _ _ _ _ _ (@ps_set _ _ 2 _ _ _ _ scFi.nd rfl (Or.inl rfl) (@pe_lst _ _ _ _ pa_nil) (by rfl) (by first | exact .inl rfl | exact .inr rfl | assumption)) (@pss_cons _ _ _ _ _ (@ps_for _ _ _ _ _ _ _ _ PassesOwn.never rfl (@pi_list _ _ _ _ (@pe_slice _ _ _ _ _ _ _ _ _ _ sl_list (@pv _ 1 _ _ (by rfl) (by first | exact Or.inl rfl | exact Or.inr (Or.inl rfl) | exact Or.inr (Or.inr rfl)) (by decide) (by decide)) po_none (@po_some _ _ _ (@pe_glob _ _ (.int 128) _ _ (by rfl) @hM ⟨_, rfl⟩ (by decide))))) (@pg_name _ _ 3 _ scFi.nd rfl (Or.inl rfl) (by first | exact .inl rfl | exact .inr rfl | assumption)) (@pss_cons _ _ _ _ _ (@ps_set _ _ 4 _ _ _ _ scFi.nd rfl (Or.inl rfl) (@pe_call _ _ _ _ _ _ _ _ _ _ _ _ _ _ _ _ UN.ok hr2 (by rfl) UN.m UN.kp UN.b .nil pass0 (@pa_cons _ _ _ _ _ (@pe_bm _ _ _ _ _ _ _ _ _ _ _ _ PySem.F.plainAttrs_str PySem.F.slot_str_split PySem.F.type_str_split mt_split (@pv _ 3 _ _ (by rfl) (by first | exact Or.inl rfl | exact Or.inr (Or.inl rfl) | exact Or.inr (Or.inr rfl)) (by decide) (by decide)) (@pa_cons _ _ _ _ _ pe_str pa_nil (by rfl)) (by rfl) (by rfl) (by rfl) (by rfl) (by rfl)) pa_nil (by rfl)) (by decide) (by rfl) (by rfl)) (by rfl) (by first | exact .inl rfl | exact .inr rfl | assumption)) (@pss_cons _ _ _ _ _ (@ps_if _ _ _ _ _ _ _ _ (@pt_not _ _ _ _ (@pt_val _ _ _ (@pe_call _ _ _ _ _ _ _ _ _ _ _ _ _ _ _ _ UF.ok hr (by rfl) UF.m UF.kp UF.b .nil pass0 (@pa_cons _ _ _ _ _ (@pv _ 0 _ _ (by rfl) (by first | exact Or.inl rfl | exact Or.inr (Or.inl rfl) | exact Or.inr (Or.inr rfl)) (by decide) (by decide)) (@pa_cons _ _ _ _ _ (@pv _ 4 _ _ (by rfl) (by first | exact Or.inl rfl | exact Or.inr (Or.inl rfl) | exact Or.inr (Or.inr rfl)) (by decide) (by decide)) pa_nil (by rfl)) (by rfl)) (by decide) (by rfl) (by rfl)) (by intro _; rfl))) (@pss_one _ _ _ ps_break) pss_nil) (@pss_one _ _ _ (@ps_expr _ _ _ _ (@pe_bm _ _ _ _ _ _ _ _ _ _ _ _ PySem.F.plainAttrs_list PySem.F.slot_list_append PySem.F.type_list_append mt_append (@pv _ 2 _ _ (by rfl) (by first | exact Or.inl rfl | exact Or.inr (Or.inl rfl) | exact Or.inr (Or.inr rfl)) (by decide) (by decide)) (@pa_cons _ _ _ _ _ (@pv _ 4 _ _ (by rfl) (by first | exact Or.inl rfl | exact Or.inr (Or.inl rfl) | exact Or.inr (Or.inr rfl)) (by decide) (by decide)) pa_nil (by rfl)) (by rfl) (by rfl) (by rfl) (by rfl) (by rfl)) (by rfl))))) (by intro _; rfl)) (@pss_one _ _ _ (@ps_ret _ _ _ _ (@pv _ 2 _ _ (by rfl) (by first | exact Or.inl rfl | exact Or.inr (Or.inl rfl) | exact Or.inr (Or.inr rfl)) (by decide) (by decide)))))), ?_⟩
  refine ⟨(by show 0 ≤ sizeLine; decide), fun lf hlf => ?_⟩
  have s1 := same_new hlf (.lst [])
  refine ⟨_, rfl, _, rfl, l, _, rfl, SqL.of (s1 _ _ hl), fun l3 hl3 => ?_⟩
  have ec : cutV (rs.map V.str) none (some 128) = (rs.map V.str).take 128 := cut_any _ 128
  rw [ec]
  have gt : ∀ (j : Nat) (x : V), ((rs.map V.str).take 128)[j]? = some x → j < 128 ∧ ∃ r, (rs.take 128)[j]? = some r ∧ r ∈ rs ∧ x = .str r := fun j x h => by
    obtain ⟨h1, r, h2, h3⟩ := take_get h
    exact ⟨h1, r, by rw [List.getElem?_take_of_lt h1]; exact h2, List.mem_of_getElem? h2, h3⟩
  generalize hy : (rs.map V.str).take 128 = ys at gt ⊢
  have yl : ys.length = (rs.take 128).length := by rw [← hy, List.length_take, List.length_take, List.length_map]
  have s2 := same_new hl3 (.lst ys)
  have h3 := atNew hl3 (.lst ys)
  have hlf0 : L2.upd (L2.upd H lf (.lst [])) l3 (.lst ys) lf = some (.lst []) := s2 _ _ upd_same
  have u2 := s1.trans s2
  have nlf : l3 ≠ lf := (ne_of_none (upd_same (H := H)) hl3).symm
  have pg := preR_get n (rs.take 128)
  have pl := preR_len n (rs.take 128)
  have tl : (rs.take 128).length ≤ 128 := by rw [List.length_take]; lia
  refine ⟨l3, rfl, ⟨_, SqL.of h3⟩, ?_⟩
  generalize L2.upd (L2.upd H lf (.lst [])) l3 (.lst ys) = H2 at *
  generalize hfs : preR n (rs.take 128) = fs at *
  refine for_list (K := K) (a := l3) (xs := ys) (fun j σ H4 => (∃ v3 v4, σ = [some (.int (n : Nat)), some (.ref l), some (.ref lf), v3, v4]) ∧ Same H H4 ∧ H4 l3 = some (.lst ys) ∧ j ≤ fs.length ∧ ∃ ps, H4 lf = some (.lst ps) ∧ Prs H4 ps (fs.take j)) ⟨⟨_, _, rfl⟩, u2, h3, Nat.zero_le _, [], hlf0, by rw [List.take_zero]; exact trivial⟩ (fun j σ H4 _ q => SqL.of q.2.2.1) ?_ ?_
  · rintro j x σ H4 hx ⟨⟨v3, v4, rfl⟩, s4, l4, jl, ps, f4, p4⟩
    obtain ⟨j128, r, hr4, rm, rfl⟩ := gt j x hx
    obtain ⟨g1, g2⟩ := pg j r hr4 jl
    have rb := rok r rm
    have fl := rb.len (by decide)
    refine ⟨_, rfl, rfl, _, _, rfl, rfl, rfl, by rw [sizeLine_eq]; lia, fun lw hlw => ?_⟩
    rw [s_sp, split_words]
    have s5 := same_new hlw (.lst ((wordsC 32 r).map V.str))
    have wl : (wordsC 32 r).length ≤ 17 + 10 := rb.2.1
    refine ⟨lw, wordsC 32 r, rfl, upd_same, by lia, RB.words rb, fun p H6 s6 hp => ?_⟩
    have u6 := s5.trans s6
    refine ⟨_, rfl, _, rfl, .ref p, (n : Nat), rfl, deep_vals hp (by rw [List.length_map]; lia), ?_⟩
    rw [fork_val hp]
    have ef : forkO n ((wordsC 32 r).map numO) = forkOf n r := rfl
    rw [ef]
    cases e : forkOf n r with
    | some g =>
      rw [e] at g1
      have je : j < fs.length := (List.getElem?_eq_some_iff.mp g1).1
      have eg : fs[j] = g := (List.getElem?_eq_some_iff.mp g1).2
      refine ⟨_, rfl, iteF ?_⟩
      have f6 := u6 _ _ f4
      have al := p4.len
      rw [List.length_take] at al
      have og := (forkO_ok e).1
      change (wordsC 32 r).map numO = _ at og
      have hp' : H6 p = some (.tup [.int (g.1 : Nat), .int (g.2 : Nat)]) := by rw [hp, og]; rfl
      refine ⟨_, rfl, .inl ⟨rfl, _, SqL.of f6⟩, _, rfl, lf, _, _, rfl, rfl, f6, by rw [sizeLine_eq]; lia, ⟨_, _, rfl⟩, fun b o e => ?_, ?_, by lia, _, upd_same, ?_⟩
      · rw [upd_ne (ne_of_none e hlf)]; exact (s4.trans u6) b o e
      · rw [upd_ne nlf]; exact u6 _ _ l4
      · rw [List.take_succ_eq_append_getElem je, eg]
        exact Prs.add (f := g) (Tups.lst f6 _ _ hp') ((p4.tups (Tups.of u6)).tups (Tups.lst f6))
    | none =>
      have ej := g2 e
      refine ⟨_, rfl, iteT ?_⟩
      rw [ej, List.take_length] at p4
      exact ⟨_, rfl, k lf ps H6 (s4.trans u6) (u6 _ _ f4) (p4.tups (Tups.of u6))⟩
  · rintro σ H4 ⟨⟨v3, v4, rfl⟩, s4, l4, jl, ps, f4, p4⟩
    rw [List.take_of_length_le (by lia)] at p4
    exact ⟨_, rfl, k lf ps H4 s4 f4 p4⟩
theorem scEi : FnScope ["lanes", "row", "word", "rest", "ends"] ["lanes", "row"] (defScope sEndsIn) := ⟨rfl, rfl, rfl, by decide +kernel, rfl, by decide +kernel, by decide +kernel⟩
theorem ok_endsz {f fN fA : Addr} {fd dN dA : FuncData} (F : Fun K "ends_in" "ends_in" sEndsIn f fd) (G : Mgs mg) (UN : Use P w K mg base "numbers_in" ["words"] 2 spNumsZ fN dN) (UA : Use P w K mg base "are_all_lanes" ["lanes", "thing"] 4 (spAllLanes K) fA dA) : FnOk P w K mg base CX0 5 f fd ["lanes", "row"] spEndsZ := by
  refine F.ok scEi (fun vs H Q E h => ?_) (fun cdv A outer s H vs Q E hr h => ?_)
  · obtain ⟨n, r, rfl, _⟩ := h
    rfl
  obtain ⟨n, r, rfl, n1, n16, rb, k0, k⟩ := h
  have hr2 : Room 2 _ := hr.mono (by decide)
  refine ⟨_, (@pss_cons _ _ _ _ _ (@ps_asg _ _ _ _ _ _ (@pe_bm _ _ _ _ _ _ _ _ _ _ _ _ PySem.F.plainAttrs_str PySem.F.slot_str_split PySem.F.type_str_split mt_split (@pv _ 1 _ _ (by rfl) (by first | exact Or.inl rfl | exact Or.inr (Or.inl rfl) | exact Or.inr (Or.inr rfl)) (by decide) (by decide)) (@pa_cons _ _ _ _ _ pe_str pa_nil (by rfl)) (by rfl) (by rfl) (by rfl) (by rfl) (by rfl)) (@pg_star _ _ _ _ _ _ _ rfl (@pgs_cons _ _ _ _ _ (@pg_name _ _ 2 _ scEi.nd rfl (Or.inl rfl) (by first | exact .inl rfl | exact .inr rfl | assumption)) (@pgs_cons _ _ _ _ _ (@pg_name _ _ 3 _ scEi.nd rfl (Or.inl rfl) (by first | exact .inl rfl | exact .inr rfl | assumption)) pgs_nil (by rfl)) (by rfl)) (by rfl) (by rfl)) (by rfl) (by rfl) (by rfl)) (@pss_cons _ _ _ _ _ (@ps_set _ _ 4 _ _ _ _ scEi.nd rfl (Or.inl rfl) (@pe_call _ _ _ _ _ _ _ _ _ _ _ _ _ _ _ _ UN.ok hr2 (by rfl) UN.m UN.kp UN.b .nil pass0 (@pa_cons _ _ _ _ _ (@pv _ 3 _ _ (by rfl) (by first | exact Or.inl rfl | exact Or.inr (Or.inl rfl) | exact Or.inr (Or.inr rfl)) (by decide) (by decide)) pa_nil (by rfl)) (by decide) (by rfl) (by rfl)) (by rfl) (by first | exact .inl rfl | exact .inr rfl | assumption)) (@pss_cons _ _ _ _ _ (@ps_if _ _ _ _ _ _ _ _ (@pw_or _ _ _ _ _ _ _ (@pt_cmpR _ _ _ _ _ _ _ _ op_ne (@pv _ 2 _ _ (by rfl) (by first | exact Or.inl rfl | exact Or.inr (Or.inl rfl) | exact Or.inr (Or.inr rfl)) (by decide) (by decide)) pe_str (nomark _)) (@pw_or1 _ _ _ _ (@pt_not _ _ _ _ (@pt_val _ _ _ (@pe_call _ _ _ _ _ _ _ _ _ _ _ _ _ _ _ _ UA.ok hr (by rfl) UA.m UA.kp UA.b .nil pass0 (@pa_cons _ _ _ _ _ (@pv _ 0 _ _ (by rfl) (by first | exact Or.inl rfl | exact Or.inr (Or.inl rfl) | exact Or.inr (Or.inr rfl)) (by decide) (by decide)) (@pa_cons _ _ _ _ _ (@pv _ 4 _ _ (by rfl) (by first | exact Or.inl rfl | exact Or.inr (Or.inl rfl) | exact Or.inr (Or.inr rfl)) (by decide) (by decide)) pa_nil (by rfl)) (by rfl)) (by decide) (by rfl) (by rfl)) (by intro _; rfl))))).pt (@pss_one _ _ _ (@ps_ret _ _ _ _ pe_non)) pss_nil) (@pss_one _ _ _ (@ps_ret _ _ _ _ (@pv _ 4 _ _ (by rfl) (by first | exact Or.inl rfl | exact Or.inr (Or.inl rfl) | exact Or.inr (Or.inr rfl)) (by decide) (by decide))))))), ?_⟩
  have fl := rb.len (by decide)
  have wl : (wordsC 32 r).length ≤ 17 + 10 := rb.2.1
  have ws : ∀ a ∈ wordsC 32 r, AscW a := RB.words rb
  have ne := words_ne 32 r
  refine ⟨_, rfl, rfl, _, _, rfl, rfl, rfl, by rw [sizeLine_eq]; lia, fun l hl => ?_⟩
  rw [s_sp, split_words]
  unfold endsOf at k k0
  change (match wordsC 32 r with | a :: t => _ | [] => _) = none → _ at k0
  change ∀ es, (match wordsC 32 r with | a :: t => _ | [] => _) = some es → _ at k
  generalize wordsC 32 r = zs at k k0 ne wl ws ⊢
  cases zs with
  | nil => exact absurd rfl ne
  | cons a t =>
  dsimp only at k k0
  have s1 := same_new hl (.lst ((a :: t).map V.str))
  refine ⟨l, _, _, rfl, SqL.of upd_same, fun l2 hl2 => ⟨_, _, rfl, _, _, rfl, rfl, ?_⟩⟩
  have s2 := same_new hl2 (.lst (t.map V.str))
  have tl : t.length ≤ 26 := by rw [List.length_cons] at wl; lia
  refine ⟨_, rfl, l2, t, rfl, upd_same, by lia, fun z hz => ws z (List.mem_cons_of_mem _ hz), fun p H3 s3 hp => ?_⟩
  refine ⟨_, rfl, rfl, _, rfl, ?_⟩
  by_cases ea : a = Str.ofString "ends"
  · subst ea
    refine iteNS rfl ⟨_, rfl, _, rfl, .ref p, (n : Nat), rfl, deep_vals hp (by rw [List.length_map]; lia), by lia, by lia, fun H4 s4 => ?_⟩
    rw [lanes_val hp]
    refine ⟨_, rfl, ?_⟩
    cases al : allL n (t.map numO) with
    | true =>
      rw [if_pos ⟨rfl, al⟩] at k
      obtain ⟨p1, _⟩ := allL_perm al
      refine iteF ⟨_, rfl, k _ rfl p H4 (((s1.trans s2).trans s3).trans s4) ?_⟩
      have h4 := s4 _ _ hp
      rw [p1, List.map_map] at h4
      rw [h4]; rfl
    | false =>
      rw [if_neg (fun z => by rw [al] at z; cases z.2)] at k0
      exact iteT (k0 rfl H4 (((s1.trans s2).trans s3).trans s4))
  · rw [decide_eq_false (fun z => ea (V.str.inj z))]
    rw [if_neg (fun z => ea z.1)] at k0
    exact iteT (k0 rfl H3 ((s1.trans s2).trans s3))
def spReadZ : Sp := fun vs H Q _ => ∃ rows : List Str, vs = [.str (Txt.join sNl rows)] ∧ RowsB 10 rows ∧ ∃ N, rdR rows = .inr N ∧ ∀ r fr er ps H', Same H H' → NetAt H' r fr er ps N → Q (.ref r) H'
def spReadZX (K : PySem.W.Frag) (C : Addr) : Sp := fun vs H _ E => (∃ x t, vs = [x] ∧ TyOf K H x t ∧ PySem.W.kitOne K t (.type "str") = some false ∧ ∀ dx, H dx = none → E (.ref C) (some dx) (L2.upd H dx (.xd [("row", .int 0)]))) ∨
  ∃ rows : List Str, vs = [.str (Txt.join sNl rows)] ∧ RowsB 10 rows ∧ ∃ k : Nat, rdR rows = .inl k ∧ ∀ H' dx, Same H H' → H' dx = none → E (.ref C) (some dx) (L2.upd H' dx (.xd [("row", .int (k : Nat))]))
theorem scRn : FnScope ["text", "rows", "lanes", "forks", "last", "ends"] ["text"] (defScope sReadN) := ⟨rfl, rfl, rfl, by decide +kernel, rfl, by decide +kernel, by decide +kernel⟩
theorem ok_readz {f fL fF fE : Addr} {fd dL dF dE : FuncData} (F : Fun K "read_net" "read_net" sReadN f fd) (G : Mgs mg) (UL : Use P w K mg base "lanes_in" ["row"] 2 spLanesZ fL dL) (UF : Use P w K mg base "forks_in" ["lanes", "rows"] 4 spForksZ fF dF) (UE : Use P w K mg base "ends_in" ["lanes", "row"] 5 spEndsZ fE dE) : FnOk P w K mg base CX0 6 f fd ["text"] spReadZ := by
  refine F.ok scRn (fun vs H Q E h => ?_) (fun cdv A outer s H vs Q E hr h => ?_)
  · obtain ⟨rows, rfl, _⟩ := h
    rfl
  obtain ⟨rows, rfl, rb, N, eN, k⟩ := h
  have hr2 : Room 2 _ := hr.mono (by decide)
  have hr4 : Room 4 _ := hr.mono (by decide)
  refine ⟨_, (@pss_cons _ _ _ _ _ (@ps_if _ _ _ _ _ _ _ _ (@pt_not _ _ _ _ (@pt_val _ _ _ (@pe_callB _ _ _ _ _ _ _ _ _ call_isi (by rfl) G.isi (by rfl) (@pa_cons _ _ _ _ _ (@pv _ 0 _ _ (by rfl) (by first | exact Or.inl rfl | exact Or.inr (Or.inl rfl) | exact Or.inr (Or.inr rfl)) (by decide) (by decide)) (@pa_cons _ _ _ _ _ (@pe_bltn _ _ (.ty "str") (.type "str") _ (by rfl) G.str (by rfl) rfl (by decide) (by decide)) pa_nil (by rfl)) (by rfl)) (by decide) (by decide) (by rfl) (by rfl)) (by intro _; rfl))) (@pss_one _ _ _ ps_dead) pss_nil) (@pss_cons _ _ _ _ _ (@ps_set _ _ 1 _ _ _ _ scRn.nd rfl (Or.inl rfl) (@pe_bm _ _ _ _ _ _ _ _ _ _ _ _ PySem.F.plainAttrs_str PySem.F.slot_str_split PySem.F.type_str_split mt_split (@pv _ 0 _ _ (by rfl) (by first | exact Or.inl rfl | exact Or.inr (Or.inl rfl) | exact Or.inr (Or.inr rfl)) (by decide) (by decide)) (@pa_cons _ _ _ _ _ pe_str pa_nil (by rfl)) (by rfl) (by rfl) (by rfl) (by rfl) (by rfl)) (by rfl) (by first | exact .inl rfl | exact .inr rfl | assumption)) (@pss_cons _ _ _ _ _ (@ps_set _ _ 2 _ _ _ _ scRn.nd rfl (Or.inl rfl) (@pe_call _ _ _ _ _ _ _ _ _ _ _ _ _ _ _ _ UL.ok hr2 (by rfl) UL.m UL.kp UL.b .nil pass0 (@pa_cons _ _ _ _ _ (@pe_ix _ _ _ _ _ _ _ ix_list (@pv _ 1 _ _ (by rfl) (by first | exact Or.inl rfl | exact Or.inr (Or.inl rfl) | exact Or.inr (Or.inr rfl)) (by decide) (by decide)) pe_int (fun _ _ => rfl)) pa_nil (by rfl)) (by decide) (by rfl) (by rfl)) (by rfl) (by first | exact .inl rfl | exact .inr rfl | assumption)) (@pss_cons _ _ _ _ _ (@ps_if _ _ _ _ _ _ _ _ (@pt_cmpR _ _ _ _ _ _ _ _ op_isN (@pv _ 2 _ _ (by rfl) (by first | exact Or.inl rfl | exact Or.inr (Or.inl rfl) | exact Or.inr (Or.inr rfl)) (by decide) (by decide)) pe_non (by rfl)) (@pss_one _ _ _ ps_dead) pss_nil) (@pss_cons _ _ _ _ _ (@ps_set _ _ 3 _ _ _ _ scRn.nd rfl (Or.inl rfl) (@pe_call _ _ _ _ _ _ _ _ _ _ _ _ _ _ _ _ UF.ok hr4 (by rfl) UF.m UF.kp UF.b .nil pass0 (@pa_cons _ _ _ _ _ (@pv _ 2 _ _ (by rfl) (by first | exact Or.inl rfl | exact Or.inr (Or.inl rfl) | exact Or.inr (Or.inr rfl)) (by decide) (by decide)) (@pa_cons _ _ _ _ _ (@pe_slice _ _ _ _ _ _ _ _ _ _ sl_list (@pv _ 1 _ _ (by rfl) (by first | exact Or.inl rfl | exact Or.inr (Or.inl rfl) | exact Or.inr (Or.inr rfl)) (by decide) (by decide)) (@po_some _ _ _ pe_int) po_none) pa_nil (by rfl)) (by rfl)) (by decide) (by rfl) (by rfl)) (by rfl) (by first | exact .inl rfl | exact .inr rfl | assumption)) (@pss_cons _ _ _ _ _ (@ps_set _ _ 4 _ _ _ _ scRn.nd rfl (Or.inl rfl) (@pe_op _ _ _ _ _ _ _ _ op_add pe_int (@pe_callB _ _ _ _ _ _ _ _ _ call_len_seq (by rfl) G.len PySem.boot_len (@pa_cons _ _ _ _ _ (@pv _ 3 _ _ (by rfl) (by first | exact Or.inl rfl | exact Or.inr (Or.inl rfl) | exact Or.inr (Or.inr rfl)) (by decide) (by decide)) pa_nil (by rfl)) (by decide) (by decide) (by rfl) (by rfl))) (by rfl) (by first | exact .inl rfl | exact .inr rfl | assumption)) (@pss_cons _ _ _ _ _ (@ps_set _ _ 5 _ _ _ _ scRn.nd rfl (Or.inl rfl) (@pe_ifExp _ _ _ _ _ _ _ _ (@pt_cmpR _ _ _ _ _ _ _ _ op_lt (@pv _ 4 _ _ (by rfl) (by first | exact Or.inl rfl | exact Or.inr (Or.inl rfl) | exact Or.inr (Or.inr rfl)) (by decide) (by decide)) (@pe_callB _ _ _ _ _ _ _ _ _ call_len_seq (by rfl) G.len PySem.boot_len (@pa_cons _ _ _ _ _ (@pv _ 1 _ _ (by rfl) (by first | exact Or.inl rfl | exact Or.inr (Or.inl rfl) | exact Or.inr (Or.inr rfl)) (by decide) (by decide)) pa_nil (by rfl)) (by decide) (by decide) (by rfl) (by rfl)) (nomark _)) (@pe_call _ _ _ _ _ _ _ _ _ _ _ _ _ _ _ _ UE.ok hr (by rfl) UE.m UE.kp UE.b .nil pass0 (@pa_cons _ _ _ _ _ (@pv _ 2 _ _ (by rfl) (by first | exact Or.inl rfl | exact Or.inr (Or.inl rfl) | exact Or.inr (Or.inr rfl)) (by decide) (by decide)) (@pa_cons _ _ _ _ _ (@pe_ix _ _ _ _ _ _ _ ix_list (@pv _ 1 _ _ (by rfl) (by first | exact Or.inl rfl | exact Or.inr (Or.inl rfl) | exact Or.inr (Or.inr rfl)) (by decide) (by decide)) (@pv _ 4 _ _ (by rfl) (by first | exact Or.inl rfl | exact Or.inr (Or.inl rfl) | exact Or.inr (Or.inr rfl)) (by decide) (by decide)) (fun _ _ => rfl)) pa_nil (by rfl)) (by rfl)) (by decide) (by rfl) (by rfl)) pe_non) (by rfl) (by first | exact .inl rfl | exact .inr rfl | assumption)) (@pss_cons _ _ _ _ _ (@ps_if _ _ _ _ _ _ _ _ (@pt_cmpR _ _ _ _ _ _ _ _ op_isN (@pv _ 5 _ _ (by rfl) (by first | exact Or.inl rfl | exact Or.inr (Or.inl rfl) | exact Or.inr (Or.inr rfl)) (by decide) (by decide)) pe_non (by rfl)) (@pss_one _ _ _ ps_dead) pss_nil) (@pss_cons _ _ _ _ _ (@ps_if _ _ _ _ _ _ _ _ (@pt_cmpR _ _ _ _ _ _ _ _ op_lt (@pe_op _ _ _ _ _ _ _ _ op_add (@pv _ 4 _ _ (by rfl) (by first | exact Or.inl rfl | exact Or.inr (Or.inl rfl) | exact Or.inr (Or.inr rfl)) (by decide) (by decide)) pe_int) (@pe_callB _ _ _ _ _ _ _ _ _ call_len_seq (by rfl) G.len PySem.boot_len (@pa_cons _ _ _ _ _ (@pv _ 1 _ _ (by rfl) (by first | exact Or.inl rfl | exact Or.inr (Or.inl rfl) | exact Or.inr (Or.inr rfl)) (by decide) (by decide)) pa_nil (by rfl)) (by decide) (by decide) (by rfl) (by rfl)) (nomark _)) (@pss_one _ _ _ ps_dead) pss_nil) (@pss_one _ _ _ (@ps_ret _ _ _ _ (@pe_tup _ _ _ _ _ (@pa_cons _ _ _ _ _ (@pv _ 2 _ _ (by rfl) (by first | exact Or.inl rfl | exact Or.inr (Or.inl rfl) | exact Or.inr (Or.inr rfl)) (by decide) (by decide)) (@pa_cons _ _ _ _ _ (@pe_callTy _ _ _ _ _ _ _ _ _ call_tuple_of (by rfl) G.tuple (by rfl) (@pa_cons _ _ _ _ _ (@pv _ 3 _ _ (by rfl) (by first | exact Or.inl rfl | exact Or.inr (Or.inl rfl) | exact Or.inr (Or.inr rfl)) (by decide) (by decide)) pa_nil (by rfl)) (by decide) (by decide) (by rfl) (by rfl)) (@pa_cons _ _ _ _ _ (@pv _ 5 _ _ (by rfl) (by first | exact Or.inl rfl | exact Or.inr (Or.inl rfl) | exact Or.inr (Or.inr rfl)) (by decide) (by decide)) pa_nil (by rfl)) (by rfl)) (by rfl)))))))))))))), ?_⟩
  refine ⟨_, rfl, _, "str", _, true, rfl, .str _, rfl, _, rfl, iteF ?_⟩
  refine ⟨_, rfl, rfl, _, _, rfl, rfl, rfl, rb.len (by decide), fun l hl => ?_⟩
  rw [s_nl, rb.split]
  cases rows with
  | nil => exact absurd rfl rb.1
  | cons r0 rs =>
  have s1 := same_new hl (.lst ((r0 :: rs).map V.str))
  have h1 := atNew hl (.lst ((r0 :: rs).map V.str))
  generalize L2.upd H l (.lst ((r0 :: rs).map V.str)) = H1 at *
  have rlen := rb.2.1
  rw [List.length_cons] at rlen
  refine ⟨_, rfl, l, _, _, _, rfl, rfl, SqL.of h1, atI_nat rfl, r0, rfl, rb.2.2 r0 List.mem_cons_self, fun H2 s2 => ?_⟩
  have h2 := s2 _ _ h1
  cases el : lanesOf r0 with
  | none => unfold rdR at eN; dsimp only at eN; rw [el] at eN; cases eN
  | some n =>
  rw [rdR_eq el] at eN
  obtain ⟨l1, l16⟩ := lanesOf_ok el
  refine ⟨_, rfl, rfl, _, rfl, iteF ?_⟩
  refine ⟨_, rfl, _, rfl, _, rfl, l, _, rfl, SqL.of h2, fun l3 hl3 => ?_⟩
  have ec : cutV ((r0 :: rs).map V.str) (some 1) none = rs.map V.str := cut_from ((r0 :: rs).map V.str) 1 (by rw [List.length_map, List.length_cons]; lia)
  rw [ec]
  have s3 := same_new hl3 (.lst (rs.map V.str))
  refine ⟨n, l3, rs, rfl, upd_same, l16, by lia, fun r hr => rb.2.2 r (List.mem_cons_of_mem _ hr), fun q ps H4 s4 hq pr => ?_⟩
  have fok := preR_ok n (rs.take 128)
  have fle := preR_len n (rs.take 128)
  rw [List.length_take] at fle
  generalize preR n (rs.take 128) = fs at eN pr fok fle
  have u4 := s3.trans s4
  have pl := pr.len
  refine ⟨_, rfl, q, _, rfl, .inl (SqL.of hq), _, _, rfl, rfl, ?_⟩
  have e4 : (1 : Int) + ((ps.length : Nat) : Int) = ((fs.length + 1 : Nat) : Int) := by lia
  simp only [e4]
  unfold tellR at eN
  cases ei : rs[fs.length]? with
  | none => rw [ei] at eN; cases eN
  | some r =>
  rw [ei] at eN
  dsimp only at eN
  have il := (List.getElem?_eq_some_iff.mp ei).1
  cases ee : endsOf n r with
  | none => rw [ee] at eN; cases eN
  | some es =>
  rw [ee] at eN
  dsimp only at eN
  by_cases lt : fs.length + 1 < rs.length
  · rw [if_pos lt] at eN; cases eN
  rw [if_neg lt] at eN
  obtain rfl := Sum.inr.inj eN
  refine ⟨_, rfl, _, rfl, l, _, rfl, .inl (SqL.of (u4 _ _ h2)), _, _, rfl, rfl, _, rfl, ?_⟩
  rw [List.length_map, List.length_cons, decide_eq_true (show ((fs.length + 1 : Nat) : Int) < ((rs.length + 1 : Nat) : Int) by lia)]
  have ea : ((r0 :: rs).map V.str)[fs.length + 1]? = some (.str r) := by
    rw [List.getElem?_map, List.getElem?_cons_succ, ei]; rfl
  refine iteT ⟨_, rfl, _, rfl, _, rfl, l, _, _, _, rfl, rfl, SqL.of (u4 _ _ h2), atI_nat ea, n, r, rfl, l1, l16, rb.2.2 r (List.mem_cons_of_mem _ (List.mem_of_getElem? ei)), fun z => absurd (ee.symm.trans z) (by simp), fun es' he' p H5 s5 hp => ?_⟩
  obtain rfl := Option.some.inj (ee.symm.trans he')
  have u5 := u4.trans s5
  refine ⟨_, rfl, rfl, _, rfl, iteF ?_⟩
  refine ⟨_, rfl, _, _, rfl, rfl, _, rfl, l, _, rfl, .inl (SqL.of (u5 _ _ h2)), _, _, rfl, rfl, _, rfl, ?_⟩
  rw [List.length_map, List.length_cons, decide_eq_false (show ¬ (((fs.length + 1 : Nat) : Int) + 1 < ((rs.length + 1 : Nat) : Int)) by lia)]
  refine iteF ⟨_, rfl, _, rfl, q, _, rfl, .inl ⟨SqL.of (s5 _ _ hq), fun fr hfr => ?_⟩⟩
  have s6 := same_new hfr (.tup ps)
  refine ⟨_, rfl, (by show 3 ≤ sizeLine; decide), fun r' hr' => ?_⟩
  have s7 := same_new hr' (.tup [.int (n : Nat), .ref fr, .ref p])
  exact k r' fr p ps _ (((s1.trans s2).trans u5).trans (s6.trans s7)) ⟨atNew hr' _, s7 _ _ (atNew hfr _), pr.tups (Tups.of ((s5.trans s6).trans s7)), s7 _ _ (s6 _ _ hp)⟩
theorem ok_readzx {f fL fF fE C L fI : Addr} {fd dL dF dE dI : FuncData} (F : Fun K "read_net" "read_net" sReadN f fd) (G : Mgs mg) (UL : Use P w K mg base "lanes_in" ["row"] 2 spLanesZ fL dL) (UF : Use P w K mg base "forks_in" ["lanes", "rows"] 4 spForksZ fF dF) (UE : Use P w K mg base "ends_in" ["lanes", "row"] 5 spEndsZ fE dE) (O : XOwn K C L fI) (UI : FnOk P w K mg base CX0 1 fI dI ["self", "row"] (spXI C "row" goodX)) (bI : Binds K dI ["self", "row"] []) (mT : mg "NoText" = some (.ref C)) : FnOk P w K mg base (CX1 P w) 6 f fd ["text"] (spReadZX K C) := by
  refine F.ok1 scRn (fun vs H Q E h => ?_) (fun cdv A outer s H vs Q E hr h => ?_)
  · rcases h with ⟨x, t, rfl, _⟩ | ⟨rows, rfl, _⟩ <;> rfl
  have hr2 : Room 2 _ := hr.mono (by decide)
  have hr4 : Room 4 _ := hr.mono (by decide)
  refine ⟨_, (@pss_cons _ _ _ _ _ (@ps_if _ _ _ _ _ _ _ _ (@pt_not _ _ _ _ (@pt_val _ _ _ (@pe_callB _ _ _ _ _ _ _ _ _ call_isi (by rfl) G.isi (by rfl) (@pa_cons _ _ _ _ _ (@pv _ 0 _ _ (by rfl) (by first | exact Or.inl rfl | exact Or.inr (Or.inl rfl) | exact Or.inr (Or.inr rfl)) (by decide) (by decide)) (@pa_cons _ _ _ _ _ (@pe_bltn _ _ (.ty "str") (.type "str") _ (by rfl) G.str (by rfl) rfl (by decide) (by decide)) pa_nil (by rfl)) (by rfl)) (by decide) (by decide) (by rfl) (by rfl)) (by intro _; rfl))) (@pss_one _ _ _ (ps_raiseX O UI bI hr2 rfl mT (@pa_cons _ _ _ _ _ pe_int pa_nil (by rfl)))) pss_nil) (@pss_cons _ _ _ _ _ (@ps_set _ _ 1 _ _ _ _ scRn.nd rfl (Or.inl rfl) (@pe_bm _ _ _ _ _ _ _ _ _ _ _ _ PySem.F.plainAttrs_str PySem.F.slot_str_split PySem.F.type_str_split mt_split (@pv _ 0 _ _ (by rfl) (by first | exact Or.inl rfl | exact Or.inr (Or.inl rfl) | exact Or.inr (Or.inr rfl)) (by decide) (by decide)) (@pa_cons _ _ _ _ _ pe_str pa_nil (by rfl)) (by rfl) (by rfl) (by rfl) (by rfl) (by rfl)) (by rfl) (by first | exact .inl rfl | exact .inr rfl | assumption)) (@pss_cons _ _ _ _ _ (@ps_set _ _ 2 _ _ _ _ scRn.nd rfl (Or.inl rfl) (@pe_call _ _ _ _ _ _ _ _ _ _ _ _ _ _ _ _ UL.ok hr2 (by rfl) UL.m UL.kp UL.b .nil pass0 (@pa_cons _ _ _ _ _ (@pe_ix _ _ _ _ _ _ _ ix_list (@pv _ 1 _ _ (by rfl) (by first | exact Or.inl rfl | exact Or.inr (Or.inl rfl) | exact Or.inr (Or.inr rfl)) (by decide) (by decide)) pe_int (fun _ _ => rfl)) pa_nil (by rfl)) (by decide) (by rfl) (by rfl)) (by rfl) (by first | exact .inl rfl | exact .inr rfl | assumption)) (@pss_cons _ _ _ _ _ (@ps_if _ _ _ _ _ _ _ _ (@pt_cmpR _ _ _ _ _ _ _ _ op_isN (@pv _ 2 _ _ (by rfl) (by first | exact Or.inl rfl | exact Or.inr (Or.inl rfl) | exact Or.inr (Or.inr rfl)) (by decide) (by decide)) pe_non (by rfl)) (@pss_one _ _ _ (ps_raiseX O UI bI hr2 rfl mT (@pa_cons _ _ _ _ _ pe_int pa_nil (by rfl)))) pss_nil) (@pss_cons _ _ _ _ _ (@ps_set _ _ 3 _ _ _ _ scRn.nd rfl (Or.inl rfl) (@pe_call _ _ _ _ _ _ _ _ _ _ _ _ _ _ _ _ UF.ok hr4 (by rfl) UF.m UF.kp UF.b .nil pass0 (@pa_cons _ _ _ _ _ (@pv _ 2 _ _ (by rfl) (by first | exact Or.inl rfl | exact Or.inr (Or.inl rfl) | exact Or.inr (Or.inr rfl)) (by decide) (by decide)) (@pa_cons _ _ _ _ _ (@pe_slice _ _ _ _ _ _ _ _ _ _ sl_list (@pv _ 1 _ _ (by rfl) (by first | exact Or.inl rfl | exact Or.inr (Or.inl rfl) | exact Or.inr (Or.inr rfl)) (by decide) (by decide)) (@po_some _ _ _ pe_int) po_none) pa_nil (by rfl)) (by rfl)) (by decide) (by rfl) (by rfl)) (by rfl) (by first | exact .inl rfl | exact .inr rfl | assumption)) (@pss_cons _ _ _ _ _ (@ps_set _ _ 4 _ _ _ _ scRn.nd rfl (Or.inl rfl) (@pe_op _ _ _ _ _ _ _ _ op_add pe_int (@pe_callB _ _ _ _ _ _ _ _ _ call_len_seq (by rfl) G.len PySem.boot_len (@pa_cons _ _ _ _ _ (@pv _ 3 _ _ (by rfl) (by first | exact Or.inl rfl | exact Or.inr (Or.inl rfl) | exact Or.inr (Or.inr rfl)) (by decide) (by decide)) pa_nil (by rfl)) (by decide) (by decide) (by rfl) (by rfl))) (by rfl) (by first | exact .inl rfl | exact .inr rfl | assumption)) (@pss_cons _ _ _ _ _ (@ps_set _ _ 5 _ _ _ _ scRn.nd rfl (Or.inl rfl) (@pe_ifExp _ _ _ _ _ _ _ _ (@pt_cmpR _ _ _ _ _ _ _ _ op_lt (@pv _ 4 _ _ (by rfl) (by first | exact Or.inl rfl | exact Or.inr (Or.inl rfl) | exact Or.inr (Or.inr rfl)) (by decide) (by decide)) (@pe_callB _ _ _ _ _ _ _ _ _ call_len_seq (by rfl) G.len PySem.boot_len (@pa_cons _ _ _ _ _ (@pv _ 1 _ _ (by rfl) (by first | exact Or.inl rfl | exact Or.inr (Or.inl rfl) | exact Or.inr (Or.inr rfl)) (by decide) (by decide)) pa_nil (by rfl)) (by decide) (by decide) (by rfl) (by rfl)) (nomark _)) (@pe_call _ _ _ _ _ _ _ _ _ _ _ _ _ _ _ _ UE.ok hr (by rfl) UE.m UE.kp UE.b .nil pass0 (@pa_cons _ _ _ _ _ (@pv _ 2 _ _ (by rfl) (by first | exact Or.inl rfl | exact Or.inr (Or.inl rfl) | exact Or.inr (Or.inr rfl)) (by decide) (by decide)) (@pa_cons _ _ _ _ _ (@pe_ix _ _ _ _ _ _ _ ix_list (@pv _ 1 _ _ (by rfl) (by first | exact Or.inl rfl | exact Or.inr (Or.inl rfl) | exact Or.inr (Or.inr rfl)) (by decide) (by decide)) (@pv _ 4 _ _ (by rfl) (by first | exact Or.inl rfl | exact Or.inr (Or.inl rfl) | exact Or.inr (Or.inr rfl)) (by decide) (by decide)) (fun _ _ => rfl)) pa_nil (by rfl)) (by rfl)) (by decide) (by rfl) (by rfl)) pe_non) (by rfl) (by first | exact .inl rfl | exact .inr rfl | assumption)) (@pss_cons _ _ _ _ _ (@ps_if _ _ _ _ _ _ _ _ (@pt_cmpR _ _ _ _ _ _ _ _ op_isN (@pv _ 5 _ _ (by rfl) (by first | exact Or.inl rfl | exact Or.inr (Or.inl rfl) | exact Or.inr (Or.inr rfl)) (by decide) (by decide)) pe_non (by rfl)) (@pss_one _ _ _ (ps_raiseX O UI bI hr2 rfl mT (@pa_cons _ _ _ _ _ (@pv _ 4 _ _ (by rfl) (by first | exact Or.inl rfl | exact Or.inr (Or.inl rfl) | exact Or.inr (Or.inr rfl)) (by decide) (by decide)) pa_nil (by rfl)))) pss_nil) (@pss_cons _ _ _ _ _ (@ps_if _ _ _ _ _ _ _ _ (@pt_cmpR _ _ _ _ _ _ _ _ op_lt (@pe_op _ _ _ _ _ _ _ _ op_add (@pv _ 4 _ _ (by rfl) (by first | exact Or.inl rfl | exact Or.inr (Or.inl rfl) | exact Or.inr (Or.inr rfl)) (by decide) (by decide)) pe_int) (@pe_callB _ _ _ _ _ _ _ _ _ call_len_seq (by rfl) G.len PySem.boot_len (@pa_cons _ _ _ _ _ (@pv _ 1 _ _ (by rfl) (by first | exact Or.inl rfl | exact Or.inr (Or.inl rfl) | exact Or.inr (Or.inr rfl)) (by decide) (by decide)) pa_nil (by rfl)) (by decide) (by decide) (by rfl) (by rfl)) (nomark _)) (@pss_one _ _ _ (ps_raiseX O UI bI hr2 rfl mT (@pa_cons _ _ _ _ _ (@pe_op _ _ _ _ _ _ _ _ op_add (@pv _ 4 _ _ (by rfl) (by first | exact Or.inl rfl | exact Or.inr (Or.inl rfl) | exact Or.inr (Or.inr rfl)) (by decide) (by decide)) pe_int) pa_nil (by rfl)))) pss_nil) (@pss_one _ _ _ (@ps_ret _ _ _ _ (@pe_tup _ _ _ _ _ (@pa_cons _ _ _ _ _ (@pv _ 2 _ _ (by rfl) (by first | exact Or.inl rfl | exact Or.inr (Or.inl rfl) | exact Or.inr (Or.inr rfl)) (by decide) (by decide)) (@pa_cons _ _ _ _ _ (@pe_callTy _ _ _ _ _ _ _ _ _ call_tuple_of (by rfl) G.tuple (by rfl) (@pa_cons _ _ _ _ _ (@pv _ 3 _ _ (by rfl) (by first | exact Or.inl rfl | exact Or.inr (Or.inl rfl) | exact Or.inr (Or.inr rfl)) (by decide) (by decide)) pa_nil (by rfl)) (by decide) (by decide) (by rfl) (by rfl)) (@pa_cons _ _ _ _ _ (@pv _ 5 _ _ (by rfl) (by first | exact Or.inl rfl | exact Or.inr (Or.inl rfl) | exact Or.inr (Or.inr rfl)) (by decide) (by decide)) pa_nil (by rfl)) (by rfl)) (by rfl)))))))))))))), ?_⟩
  rcases h with ⟨x, t, rfl, ty, kt, k⟩ | ⟨rows, rfl, rb, e, eN, k⟩
  · exact ⟨_, rfl, _, "str", _, false, rfl, ty, kt, _, rfl, iteT ⟨_, rfl, ⟨0, rfl, by decide⟩, k⟩⟩
  refine ⟨_, rfl, _, "str", _, true, rfl, .str _, rfl, _, rfl, iteF ?_⟩
  refine ⟨_, rfl, rfl, _, _, rfl, rfl, rfl, rb.len (by decide), fun l hl => ?_⟩
  rw [s_nl, rb.split]
  cases rows with
  | nil => exact absurd rfl rb.1
  | cons r0 rs =>
  have s1 := same_new hl (.lst ((r0 :: rs).map V.str))
  have h1 := atNew hl (.lst ((r0 :: rs).map V.str))
  generalize L2.upd H l (.lst ((r0 :: rs).map V.str)) = H1 at *
  have rlen := rb.2.1
  rw [List.length_cons] at rlen
  refine ⟨_, rfl, l, _, _, _, rfl, rfl, SqL.of h1, atI_nat rfl, r0, rfl, rb.2.2 r0 List.mem_cons_self, fun H2 s2 => ?_⟩
  have h2 := s2 _ _ h1
  cases el : lanesOf r0 with
  | none =>
    unfold rdR at eN; dsimp only at eN; rw [el] at eN
    obtain rfl := Sum.inl.inj eN
    exact ⟨_, rfl, rfl, _, rfl, iteT ⟨_, rfl, ⟨0, rfl, by decide⟩, fun dx hd => k _ dx (s1.trans s2) hd⟩⟩
  | some n =>
  rw [rdR_eq el] at eN
  obtain ⟨l1, l16⟩ := lanesOf_ok el
  refine ⟨_, rfl, rfl, _, rfl, iteF ?_⟩
  refine ⟨_, rfl, _, rfl, _, rfl, l, _, rfl, SqL.of h2, fun l3 hl3 => ?_⟩
  have ec : cutV ((r0 :: rs).map V.str) (some 1) none = rs.map V.str := cut_from ((r0 :: rs).map V.str) 1 (by rw [List.length_map, List.length_cons]; lia)
  rw [ec]
  have s3 := same_new hl3 (.lst (rs.map V.str))
  refine ⟨n, l3, rs, rfl, upd_same, l16, by lia, fun r hr => rb.2.2 r (List.mem_cons_of_mem _ hr), fun q ps H4 s4 hq pr => ?_⟩
  have fle := preR_len n (rs.take 128)
  rw [List.length_take] at fle
  generalize preR n (rs.take 128) = fs at eN pr fle
  have u4 := s3.trans s4
  have pl := pr.len
  refine ⟨_, rfl, q, _, rfl, .inl (SqL.of hq), _, _, rfl, rfl, ?_⟩
  have e4 : (1 : Int) + ((ps.length : Nat) : Int) = ((fs.length + 1 : Nat) : Int) := by lia
  simp only [e4]
  have v4 := (s1.trans s2).trans u4
  have e5 : 1 + fs.length = fs.length + 1 := by lia
  unfold tellR at eN
  refine ⟨_, rfl, _, rfl, l, _, rfl, .inl (SqL.of (u4 _ _ h2)), _, _, rfl, rfl, _, rfl, ?_⟩
  rw [List.length_map, List.length_cons]
  cases ei : rs[fs.length]? with
  | none =>
    rw [ei] at eN
    obtain rfl := Sum.inl.inj eN
    have il := List.getElem?_eq_none_iff.mp ei
    rw [decide_eq_false (show ¬ ((fs.length + 1 : Nat) : Int) < ((rs.length + 1 : Nat) : Int) by lia)]
    rw [e5] at k
    exact iteF ⟨_, rfl, rfl, _, rfl, iteT ⟨_, rfl, _, rfl, ⟨_, rfl, by lia⟩, fun dx hd => k _ dx v4 hd⟩⟩
  | some r =>
  rw [ei] at eN
  dsimp only at eN
  have il := (List.getElem?_eq_some_iff.mp ei).1
  rw [decide_eq_true (show ((fs.length + 1 : Nat) : Int) < ((rs.length + 1 : Nat) : Int) by lia)]
  have ea : ((r0 :: rs).map V.str)[fs.length + 1]? = some (.str r) := by
    rw [List.getElem?_map, List.getElem?_cons_succ, ei]; rfl
  refine iteT ⟨_, rfl, _, rfl, _, rfl, l, _, _, _, rfl, rfl, SqL.of (u4 _ _ h2), atI_nat ea, n, r, rfl, l1, l16, rb.2.2 r (List.mem_cons_of_mem _ (List.mem_of_getElem? ei)), fun ee H5 s5 => ?_, fun es ee p H5 s5 hp => ?_⟩
  · rw [ee] at eN
    obtain rfl := Sum.inl.inj eN
    rw [e5] at k
    exact ⟨_, rfl, rfl, _, rfl, iteT ⟨_, rfl, _, rfl, ⟨_, rfl, by lia⟩, fun dx hd => k _ dx (v4.trans s5) hd⟩⟩
  · rw [ee] at eN
    dsimp only at eN
    by_cases lt : fs.length + 1 < rs.length
    · rw [if_pos lt] at eN
      obtain rfl := Sum.inl.inj eN
      have u5 := u4.trans s5
      refine ⟨_, rfl, rfl, _, rfl, iteF ?_⟩
      refine ⟨_, rfl, _, _, rfl, rfl, _, rfl, l, _, rfl, .inl (SqL.of (u5 _ _ h2)), _, _, rfl, rfl, _, rfl, ?_⟩
      rw [List.length_map, List.length_cons, decide_eq_true (show (((fs.length + 1 : Nat) : Int) + 1 < ((rs.length + 1 : Nat) : Int)) by lia)]
      have e6 : ((fs.length + 1 : Nat) : Int) + 1 = ((1 + fs.length + 1 : Nat) : Int) := by lia
      refine iteT ⟨_, rfl, _, _, rfl, rfl, _, rfl, ⟨_, congrArg V.int e6, by lia⟩, fun dx hd => ?_⟩
      have := k _ dx (v4.trans s5) hd
      rw [← e6] at this
      exact this
    · rw [if_neg lt] at eN; cases eN
end
end K77
end
section
set_option maxHeartbeats 4000001
namespace K77
open PySem L2 Own Bn
abbrev sShowN : Stmt := top 31
def spShowN : Sp := fun vs H Q _ => ∃ r fr er ps N, vs = [.ref r] ∧ Nt.Ok N ∧ NetAt H r fr er ps N ∧ ∀ H', Same H H' → Q (.str (netT N.lanes N.forks N.ends)) H'
theorem empty_app (x : Str) : Str.empty ++ x = x := Str.ext' (by rw [Str.cps_append]; show #[] ++ x.cps = x.cps; simp)
theorem fits_nat {n : Nat} (h : n ≤ 1000) : ((n : Nat) : Int).natAbs.log2 < 1920 := by
  by_cases z : ((n : Nat) : Int).natAbs = 0
  · rw [z]; decide
  · exact (Nat.log2_lt z).mpr (Nat.lt_of_le_of_lt (show ((n : Nat) : Int).natAbs ≤ 1000 by lia) (by decide))
theorem joinS {sep : Str} {ss : List Str} {B : Nat} (h : ∀ y ∈ ss, y.length ≤ B) (hz : ss.length * B + ss.length * sep.length ≤ 16777216) : JoinOk sep ss = true := by
  unfold JoinOk
  rw [Bool.not_eq_true']
  exact StrLaws.joinFits h hz
section
variable {P : Program} {w : World} {K : PySem.W.Frag} {mg : Str → Option Value} {base : Heap}
theorem scSn : FnScope ["net", "lanes", "forks", "ends", "rows"] ["net"] (defScope sShowN) := ⟨rfl, rfl, rfl, by decide +kernel, rfl, by decide +kernel, by decide +kernel⟩
theorem ok_shown {f : Addr} {fd : FuncData} (F : Fun K "show_net" "show_net" sShowN f fd) (G : Mgs mg) : FnOk P w K mg base CX0 1 f fd ["net"] spShowN := by
  refine F.ok scSn (fun vs H Q E h => ?_) (fun cdv A outer s H vs Q E hr h => ?_)
  · obtain ⟨r, fr, er, ps, N, rfl, _⟩ := h
    rfl
  obtain ⟨r, fr, er, ps, N, rfl, ok, na, k⟩ := h
  refine ⟨_, (@pss_cons _ _ _ _ _ (@ps_asg _ _ _ _ _ _ (@pv _ 0 _ _ (by rfl) (by first | exact Or.inl rfl | exact Or.inr (Or.inl rfl) | exact Or.inr (Or.inr rfl)) (by decide) (by decide)) (@pg_tup _ _ _ _ _ _ rfl (@pgs_cons _ _ _ _ _ (@pg_name _ _ 1 _ scSn.nd rfl (Or.inl rfl) (by first | exact .inl rfl | exact .inr rfl | assumption)) (@pgs_cons _ _ _ _ _ (@pg_name _ _ 2 _ scSn.nd rfl (Or.inl rfl) (by first | exact .inl rfl | exact .inr rfl | assumption)) (@pgs_cons _ _ _ _ _ (@pg_name _ _ 3 _ scSn.nd rfl (Or.inl rfl) (by first | exact .inl rfl | exact .inr rfl | assumption)) pgs_nil (by rfl)) (by rfl)) (by rfl)) (by rfl) (by rfl)) (by rfl) (by rfl) (by rfl)) (@pss_cons _ _ _ _ _ (@ps_set _ _ 4 _ _ _ _ scSn.nd rfl (Or.inl rfl) (@pe_op _ _ _ _ _ _ _ _ op_cat (@pe_lst _ _ _ _ (@pa_cons _ _ _ _ _ (@pe_fstr _ _ _ _ _ _ (pfs_str (pfs_int (@pv _ 1 _ _ (by rfl) (by first | exact Or.inl rfl | exact Or.inr (Or.inl rfl) | exact Or.inr (Or.inr rfl)) (by decide) (by decide)) pfs_nil))) pa_nil (by rfl))) (@pe_lc _ _ _ _ none _ _ _ (gTup K 2 (gCons (gName 0) (gCons (gName 1) gNil))) _ _ ["one", "other"] [none, none] rfl (@pi_tup _ _ _ _ (@pv _ 2 _ _ (by rfl) (by first | exact Or.inl rfl | exact Or.inr (Or.inl rfl) | exact Or.inr (Or.inr rfl)) (by decide) (by decide))) (CapOk.of (by kernel_rfl)) (fun _ _ _ _ _ => (@pg_tup _ _ _ _ _ _ rfl (@pgs_cons _ _ _ _ _ (@pg_name _ _ 0 _ (show (["one", "other"] : List Str).Nodup from by decide +kernel) rfl (Or.inl rfl) (Or.inr rfl)) (@pgs_cons _ _ _ _ _ (@pg_name _ _ 1 _ (show (["one", "other"] : List Str).Nodup from by decide +kernel) rfl (Or.inl rfl) (Or.inr rfl)) pgs_nil (by rfl)) (by rfl)) (by rfl) (by rfl))) (fun _ _ _ _ _ => pt_none) (fun _ _ _ _ _ => (@pe_fstr _ _ _ _ _ _ (pfs_int (@pv _ 0 _ _ (by rfl) (by first | exact Or.inl rfl | exact Or.inr (Or.inl rfl) | exact Or.inr (Or.inr rfl)) (by decide) (by decide)) (pfs_str (pfs_int (@pv _ 1 _ _ (by rfl) (by first | exact Or.inl rfl | exact Or.inr (Or.inl rfl) | exact Or.inr (Or.inr rfl)) (by decide) (by decide)) pfs_nil))))) (by intro _; rfl))) (by rfl) (by first | exact .inl rfl | exact .inr rfl | assumption)) (@pss_cons _ _ _ _ _ (@ps_expr _ _ _ _ (@pe_bm _ _ _ _ _ _ _ _ _ _ _ _ PySem.F.plainAttrs_list PySem.F.slot_list_append PySem.F.type_list_append mt_append (@pv _ 4 _ _ (by rfl) (by first | exact Or.inl rfl | exact Or.inr (Or.inl rfl) | exact Or.inr (Or.inr rfl)) (by decide) (by decide)) (@pa_cons _ _ _ _ _ (@pe_bm _ _ _ _ _ _ _ _ _ _ _ _ PySem.F.plainAttrs_str PySem.F.slot_str_join PySem.F.type_str_join mt_join pe_str (@pa_cons _ _ _ _ _ (@pe_op _ _ _ _ _ _ _ _ op_cat (@pe_lst _ _ _ _ (@pa_cons _ _ _ _ _ pe_str pa_nil (by rfl))) (@pe_lc _ _ _ _ none _ _ _ _ _ _ ["lane"] [none] rfl (@pi_tup _ _ _ _ (@pv _ 3 _ _ (by rfl) (by first | exact Or.inl rfl | exact Or.inr (Or.inl rfl) | exact Or.inr (Or.inr rfl)) (by decide) (by decide))) (CapOk.of (by kernel_rfl)) (fun _ _ _ _ _ => (@pg_name _ _ 0 _ (show (["lane"] : List Str).Nodup from by decide +kernel) rfl (Or.inl rfl) (Or.inr rfl))) (fun _ _ _ _ _ => pt_none) (fun _ _ _ _ _ => (@pe_callTy _ _ _ _ _ _ _ _ _ call_str_int (by rfl) G.str (by rfl) (@pa_cons _ _ _ _ _ (@pv _ 0 _ _ (by rfl) (by first | exact Or.inl rfl | exact Or.inr (Or.inl rfl) | exact Or.inr (Or.inr rfl)) (by decide) (by decide)) pa_nil (by rfl)) (by decide) (by decide) (by rfl) (by rfl))) (by intro _; rfl))) pa_nil (by rfl)) (by rfl) (by rfl) (by rfl) (by rfl) (by rfl)) pa_nil (by rfl)) (by rfl) (by rfl) (by rfl) (by rfl) (by rfl)) (by rfl)) (@pss_one _ _ _ (@ps_ret _ _ _ _ (@pe_bm _ _ _ _ _ _ _ _ _ _ _ _ PySem.F.plainAttrs_str PySem.F.slot_str_join PySem.F.type_str_join mt_join pe_str (@pa_cons _ _ _ _ _ (@pv _ 4 _ _ (by rfl) (by first | exact Or.inl rfl | exact Or.inr (Or.inl rfl) | exact Or.inr (Or.inr rfl)) (by decide) (by decide)) pa_nil (by rfl)) (by rfl) (by rfl) (by rfl) (by rfl) (by rfl))))))), ?_⟩
  have l1 := ok.l1
  have l16 := ok.l16
  have fm := ok.fm
  have pl := na.prs.len
  have el : N.ends.length = N.lanes := by rw [ok.en.length_eq, List.length_range]
  have eok : ∀ e ∈ N.ends, e ≤ 1000 := fun e he => by have := List.mem_range.mp (ok.en.mem_iff.mp he); lia
  have ls := txt_small (n := N.lanes) (by lia)
  have e6 : (Str.ofString "lanes ").length = 6 := by decide
  have e0 : Str.empty.length = 0 := rfl
  refine ⟨_, rfl, r, _, rfl, SqT.of na.net, rfl, _, _, rfl, _, _, rfl, _, _, rfl, rfl, ?_⟩
  refine ⟨by rw [e0, e6, sizeLine_eq]; lia, _, rfl, (N.lanes : Nat), rfl, fits_nat (by lia), by rw [Str.length_append, e0, e6, sizeLine_eq]; lia, ?_⟩
  have eL : Str.empty ++ Str.ofString "lanes " ++ txt (N.lanes : Nat) = lanesR N.lanes := by rw [empty_app]; rfl
  rw [eL]
  refine ⟨(by show 1 ≤ sizeLine; decide), fun a1 ha1 => ?_⟩
  have s1 := same_new ha1 (.lst [.str (lanesR N.lanes)])
  have h1 := atNew ha1 (.lst [.str (lanesR N.lanes)])
  generalize L2.upd H a1 (.lst [.str (lanesR N.lanes)]) = H1 at *
  have na1 := na.tups (Tups.of s1)
  refine ⟨_, rfl, fr, rfl, ⟨_, SqT.of na1.forks⟩, fun a2 ha2 => ?_⟩
  refine lc_tup (K := K) (a := fr) (xs := ps) (fun j acc σ H2 => (∃ v0 v1, σ = [v0, v1]) ∧ Same H1 H2 ∧ H2 a2 = some (.lst acc) ∧ acc = ((N.forks.take j).map forkR).map V.str) ⟨⟨_, _, rfl⟩, same_new ha2 _, upd_same, by rw [List.take_zero]; rfl⟩ (fun j acc σ H2 q => ⟨q.2.2.1, SqT.of (q.2.1 _ _ na1.forks)⟩) ?_ ?_
  · rintro j x acc σ H2 hx ⟨⟨v0, v1, rfl⟩, s2, h2, rfl⟩
    have jl : j < ps.length := (List.getElem?_eq_some_iff.mp hx).1
    have jf : j < N.forks.length := by lia
    obtain ⟨t, g, rfl, eg, hg⟩ := (na1.prs.tups (Tups.of s2)).get hx
    have okg := ok.fk g (List.mem_of_getElem? eg)
    have t1 := txt_small (n := g.1) (by lia)
    have t2 := txt_small (n := g.2) (by lia)
    have e1 : (Str.ofString " ").length = 1 := by decide
    refine ⟨t, _, rfl, SqT.of hg, rfl, _, _, rfl, _, _, rfl, rfl, ?_⟩
    refine ⟨_, rfl, (g.1 : Nat), rfl, fits_nat (by lia), by rw [e0, sizeLine_eq]; lia, by rw [Str.length_append, e0, e1, sizeLine_eq]; lia, _, rfl, (g.2 : Nat), rfl, fits_nat (by lia), by rw [Str.length_append, Str.length_append, e0, e1, sizeLine_eq]; lia, ?_⟩
    have eF : Str.empty ++ txt (g.1 : Nat) ++ Str.ofString " " ++ txt (g.2 : Nat) = forkR g := by rw [empty_app]; rfl
    rw [eF]
    refine ⟨h2, by rw [List.length_map, List.length_map, List.length_take, sizeLine_eq]; lia, nx jl ⟨⟨_, _, rfl⟩, fun b o e => ?_, upd_same, ?_⟩⟩
    · rw [upd_ne (ne_of_none e ha2)]; exact s2 b o e
    · rw [List.take_succ_eq_append_getElem jf, (List.getElem?_eq_some_iff.mp eg).2, List.map_append, List.map_append]; rfl
  rintro acc σ H2 ⟨⟨v0, v1, rfl⟩, s2, h2, rfl⟩
  rw [pl, List.take_length] at h2
  refine ⟨a1, a2, _, _, rfl, rfl, s2 _ _ h1, h2, by rw [List.length_map, List.length_map, sizeLine_eq]; show 1 + _ ≤ _; lia, fun a3 ha3 => ?_⟩
  have s3 := same_new ha3 (.lst ([V.str (lanesR N.lanes)] ++ (N.forks.map forkR).map V.str))
  have h3 := atNew ha3 (.lst ([V.str (lanesR N.lanes)] ++ (N.forks.map forkR).map V.str))
  have u3 := (s1.trans s2).trans s3
  generalize L2.upd H2 a3 (.lst ([V.str (lanesR N.lanes)] ++ (N.forks.map forkR).map V.str)) = H3 at *
  have na3 := na.tups (Tups.of u3)
  refine ⟨_, rfl, .inl ⟨rfl, _, SqL.of h3⟩, rfl, (by show 1 ≤ sizeLine; decide), fun a4 ha4 => ?_⟩
  have s4 := same_new ha4 (.lst [.str (Str.ofString "ends")])
  have h4 := atNew ha4 (.lst [.str (Str.ofString "ends")])
  have na4 := na3.tups (Tups.of s4)
  generalize L2.upd H3 a4 (.lst [.str (Str.ofString "ends")]) = H4 at *
  refine ⟨_, rfl, er, rfl, ⟨_, SqT.of na4.ends⟩, fun a5 ha5 => ?_⟩
  refine lc_tup (K := K) (a := er) (xs := nums N.ends) (fun j acc σ H5 => (∃ v0, σ = [v0]) ∧ Same H4 H5 ∧ H5 a5 = some (.lst acc) ∧ acc = ((N.ends.take j).map fun (e : Nat) => txt (e : Int)).map V.str) ⟨⟨_, rfl⟩, same_new ha5 _, upd_same, by rw [List.take_zero]; rfl⟩ (fun j acc σ H5 q => ⟨q.2.2.1, SqT.of (q.2.1 _ _ na4.ends)⟩) ?_ ?_
  · rintro j x acc σ H5 hx ⟨⟨v0, rfl⟩, s5, h5, rfl⟩
    have jl : j < N.ends.length := by have := (List.getElem?_eq_some_iff.mp hx).1; rwa [nums_len] at this
    have ex : x = .int (N.ends[j] : Nat) := by
      unfold nums at hx
      rw [List.getElem?_map, List.getElem?_eq_getElem jl] at hx; exact (Option.some.inj hx).symm
    subst ex
    refine ⟨_, rfl, (N.ends[j] : Nat), rfl, fits_nat (eok _ (List.getElem_mem jl)), h5, by rw [List.length_map, List.length_map, List.length_take, sizeLine_eq]; lia, nx (by rw [nums_len]; exact jl) ⟨⟨_, rfl⟩, fun b o e => ?_, upd_same, ?_⟩⟩
    · rw [upd_ne (ne_of_none e ha5)]; exact s5 b o e
    · rw [List.take_succ_eq_append_getElem jl, List.map_append, List.map_append]; rfl
  rintro acc σ H5 ⟨⟨v0, rfl⟩, s5, h5, rfl⟩
  rw [nums_len, List.take_length] at h5
  refine ⟨a4, a5, _, _, rfl, rfl, s5 _ _ h4, h5, by rw [List.length_map, List.length_map, sizeLine_eq]; show 1 + _ ≤ _; lia, fun a6 ha6 => ?_⟩
  have s6 := same_new ha6 (.lst ([V.str (Str.ofString "ends")] ++ (N.ends.map fun (e : Nat) => txt (e : Int)).map V.str))
  have u6 := (s4.trans s5).trans s6
  have h36 := u6 _ _ h3
  refine ⟨_, a6, Str.ofString "ends" :: N.ends.map (fun (e : Nat) => txt (e : Int)), rfl, rfl, SqL.of upd_same, joinS (B := 31) (fun y hy => ?_) ?_, ?_⟩
  · rcases List.mem_cons.mp hy with rfl | z
    · decide
    · obtain ⟨e, he, rfl⟩ := List.mem_map.mp z
      exact txt_small (eok e he)
  · rw [List.length_cons, List.length_map]
    show (N.ends.length + 1) * 31 + (N.ends.length + 1) * 1 ≤ _
    lia
  have eE : Txt.join (Str.ofString " ") (Str.ofString "ends" :: N.ends.map fun (e : Nat) => txt (e : Int)) = endsR N.ends := by rw [s_sp]; rfl
  rw [eE]
  refine ⟨a3, _, _, rfl, rfl, h36, by rw [List.length_append, List.length_map, List.length_map, sizeLine_eq]; show 1 + _ < _; lia, ?_⟩
  have rl : (rowsN N.lanes N.forks N.ends).length = N.forks.length + 2 := by
    unfold rowsN
    rw [List.length_cons, List.length_append, List.length_map]; rfl
  refine ⟨rfl, _, rfl, _, a3, rowsN N.lanes N.forks N.ends, rfl, rfl, SqL.of (upd_same.trans ?_), joinS (B := 1000) (fun y hy => ?_) ?_, ?_⟩
  · unfold rowsN
    rw [List.map_cons, List.map_append, List.append_assoc]; rfl
  · rcases List.mem_cons.mp hy with rfl | q
    · exact len_lanes (by lia)
    · rcases List.mem_append.1 q with q | q
      · obtain ⟨g, hg, rfl⟩ := List.mem_map.mp q
        have := ok.fk g hg
        exact len_fork (by lia) (by lia)
      · rw [List.mem_singleton.mp q]
        exact len_ends (by lia) eok
  · rw [rl]
    show (N.forks.length + 2) * 1000 + (N.forks.length + 2) * 1 ≤ _
    lia
  have eT : Txt.join (Str.ofString "\n") (rowsN N.lanes N.forks N.ends) = netT N.lanes N.forks N.ends := by rw [s_nl]; rfl
  rw [eT]
  refine k _ fun b o e => ?_
  have hn : H a3 = none := by
    cases z : H a3 with
    | none => rfl
    | some o' => exact absurd ((s1.trans s2) _ _ z) (by rw [ha3]; exact fun w => nomatch w)
  rw [upd_ne (ne_of_none e hn)]; exact (u3.trans u6) b o e
end
end K77
end
section
set_option maxHeartbeats 4000001
namespace Bn
open PySem PySem.Spec PyProof.Rows PySem.NumText Builtin Builtin.Str
end Bn
end
section
set_option maxHeartbeats 4000001
namespace Bn
open PySem PySem.Spec PyProof.Rows L2 Own
def PcB (b : Nat) (z : Str) : Prop := (∀ c ∈ z.cps.toList, c < 128 ∧ c ≠ 10 ∧ c ≠ 32) ∧ z.length ≤ 33 + b
theorem RB.of {b : Nat} {p : List Str} (p0 : p ≠ []) (pl : p.length ≤ 17 + b) (pp : ∀ a ∈ p, PcB b a) : RB b (Txt.join ⟨#[32]⟩ p) := by
  have wo : wsR (Txt.join ⟨#[32]⟩ p) = p := words_of 32 p0 fun a ha q => (pp a ha).1 32 q |>.2.2 rfl
  refine ⟨fun c hc => ?_, by rw [wo]; exact pl, fun a ha => by rw [wo] at ha; exact (pp a ha).2⟩
  rw [show Txt.join ⟨#[32]⟩ p = Str.join ⟨#[32]⟩ p from StrLaws.glued_eq_join _ _] at hc
  rcases join_mem hc with q | ⟨a, ha, q⟩
  · have : c = 32 := by simpa using q
    subst this; decide
  · exact ⟨((pp a ha).1 c q).1, ((pp a ha).1 c q).2.1⟩
theorem rows_some {b : Nat} {rs : List Str} (l : rs.length ≤ 140 + b) (h : ∀ r ∈ rs, RB b r) : ∃ rs', RowsB b rs' ∧ Txt.join sNl rs = Txt.join sNl rs' := by
  cases rs with
  | nil =>
    refine ⟨[Str.empty], ⟨by simp, by show 1 ≤ 140 + b; lia, fun r hr => ?_⟩, rfl⟩
    rw [List.mem_singleton.mp hr]
    exact RB.of (p := [Str.empty]) (by simp) (by show 1 ≤ 17 + b; lia) fun a ha => by
      rw [List.mem_singleton.mp ha]; exact ⟨fun c hc => absurd hc (by show ¬ c ∈ ([] : List Nat); simp), by show 0 ≤ 33 + b; lia⟩
  | cons r t => exact ⟨r :: t, ⟨by simp, l, h⟩, rfl⟩
theorem txt_pc {n : Nat} (h : n ≤ 1000) (b : Nat) : PcB b (txt (n : Nat)) := ⟨fun c hc => by
    rcases txt_signs _ c hc with rfl | q
    · decide
    · exact ⟨by lia, by lia, by lia⟩, by have := txt_small h; lia⟩
theorem rows_net {N : Nt} (ok : N.Ok) : RowsB 0 (rowsN N.lanes N.forks N.ends) := by
  have l16 := ok.l16
  have fm := ok.fm
  have el : N.ends.length = N.lanes := by rw [ok.en.length_eq, List.length_range]
  have eok : ∀ e ∈ N.ends, e ≤ 1000 := fun e he => by have := List.mem_range.mp (ok.en.mem_iff.mp he); lia
  refine ⟨by unfold rowsN; simp, by unfold rowsN; rw [List.length_cons, List.length_append, List.length_map, List.length_singleton]; lia, fun r hr => ?_⟩
  unfold rowsN at hr
  rcases List.mem_cons.mp hr with rfl | hr
  · rw [lanesR_join]
    refine RB.of (by simp) (by show 2 ≤ 17; decide) fun a ha => ?_
    rcases (List.mem_cons.1 ha) with rfl | ha
    · exact ⟨by decide, by decide⟩
    · rw [List.mem_singleton.mp ha]; exact txt_pc (by lia) 0
  · rcases List.mem_append.mp hr with q | q
    · obtain ⟨g, hg, rfl⟩ := List.mem_map.mp q
      have := ok.fk g hg
      rw [forkR_join]
      refine RB.of (by simp) (by show 2 ≤ 17; decide) fun a ha => ?_
      rcases (List.mem_cons.1 ha) with rfl | ha
      · exact txt_pc (by lia) 0
      · rw [List.mem_singleton.mp ha]; exact txt_pc (by lia) 0
    · rw [List.mem_singleton.mp q]
      refine RB.of (by simp) (by rw [List.length_cons, List.length_map]; lia) fun a ha => ?_
      rcases (List.mem_cons.1 ha) with rfl | ha
      · exact ⟨by decide, by decide⟩
      · obtain ⟨e, he, rfl⟩ := List.mem_map.mp ha
        exact txt_pc (eok e he) 0
theorem pre_net (n : Nat) : ∀ (fs : List (Nat × Nat)) (es : List Nat), n ≤ 16 → (∀ f ∈ fs, f.1 < n ∧ f.2 < n ∧ f.1 ≠ f.2) → ∀ acc k, acc.length + fs.length ≤ 128 → endsOf n (endsR es) = some es → goR n acc k (fs.map forkR ++ [endsR es]) = .inr ⟨n, acc ++ fs, es⟩
  | [], es, _, _, acc, k, _, he => by
    show goR n acc k [endsR es] = _
    rw [goR, he, List.append_nil]; rfl
  | f :: fs, es, n16, hf, acc, k, hl, he => by
    obtain ⟨o1, o2, o3⟩ := hf f List.mem_cons_self
    have ws : wsR (forkR f) = [txt (f.1 : Nat), txt (f.2 : Nat)] := (split_words 32 _).symm.trans (split_fork f)
    have e0 : endsOf n (forkR f) = none := by
      unfold endsOf
      rw [ws]
      dsimp only
      refine if_neg fun z => ?_
      have := numO_txt (n := (f.1 : Nat)) (nat_small (by lia))
      rw [z.1, ends_bad] at this; cases this
    have f0 : forkOf n (forkR f) = some f := by
      unfold forkOf
      rw [ws, List.map_cons, List.map_cons, List.map_nil, numO_txt (nat_small (by lia)), numO_txt (nat_small (by lia))]
      unfold forkO
      dsimp only
      rw [if_pos]
      · rfl
      · show ((decide (0 ≤ ((f.1 : Nat) : Int)) && decide (((f.1 : Nat) : Int) < n)) && ((decide (0 ≤ ((f.2 : Nat) : Int)) && decide (((f.2 : Nat) : Int) < n)) && !decide (((f.1 : Nat) : Int) = ((f.2 : Nat) : Int)))) = true
        rw [decide_eq_true (by lia), decide_eq_true (by lia), decide_eq_true (by lia), decide_eq_true (by lia), decide_eq_false (by lia)]; rfl
    rw [List.length_cons] at hl
    rw [List.map_cons, List.cons_append, goR, e0]
    dsimp only
    rw [f0]
    dsimp only
    rw [if_pos (by lia), pre_net n fs es n16 (fun g hg => hf g (List.mem_cons_of_mem _ hg)) _ _ (by rw [List.length_append, List.length_singleton]; lia) he, List.append_assoc]; rfl
theorem rd_net {N : Nt} (ok : N.Ok) : rdR (rowsN N.lanes N.forks N.ends) = .inr N := by
  have l16 := ok.l16
  have l1 := ok.l1
  have el : N.ends.length = N.lanes := by rw [ok.en.length_eq, List.length_range]
  have eok : ∀ e ∈ N.ends, e < N.lanes := fun e he => List.mem_range.mp (ok.en.mem_iff.mp he)
  have lo : lanesOf (lanesR N.lanes) = some N.lanes := by
    have ws : wsR (lanesR N.lanes) = [Str.ofString "lanes", txt (N.lanes : Nat)] := (split_words 32 _).symm.trans (split_lanes _)
    unfold lanesOf
    rw [ws]
    dsimp only
    rw [if_pos rfl, numO_txt (nat_small (by lia))]
    dsimp only
    rw [if_pos (by lia)]
    rfl
  have eo : endsOf N.lanes (endsR N.ends) = some N.ends := by
    have ws : wsR (endsR N.ends) = Str.ofString "ends" :: N.ends.map fun (e : Nat) => txt (e : Int) := (split_words 32 _).symm.trans (split_ends _)
    have nm : (N.ends.map fun (e : Nat) => txt (e : Int)).map numO = N.ends.map fun (e : Nat) => some (e : Int) := by
      rw [List.map_map]
      exact List.map_congr_left fun e he => numO_txt (nat_small (by have := eok e he; lia))
    unfold endsOf
    rw [ws]
    dsimp only
    rw [nm, if_pos]
    · rw [List.map_map]
      exact congrArg some ((List.map_congr_left fun e _ => rfl).trans (List.map_id _))
    · refine ⟨rfl, ?_⟩
      unfold allL
      rw [List.length_map, decide_eq_true el]
      have a : (N.ends.map fun (e : Nat) => some (e : Int)).all (belowO N.lanes) = true := List.all_eq_true.mpr fun o ho => by
        obtain ⟨e, he, rfl⟩ := List.mem_map.mp ho
        have := eok e he
        show (decide (0 ≤ (e : Int)) && decide ((e : Int) < N.lanes)) = true
        rw [decide_eq_true (by lia), decide_eq_true (by lia)]; rfl
      have b : ((List.range N.lanes).all fun (i : Nat) => (N.ends.map fun (e : Nat) => some (e : Int)).contains (some (i : Int))) = true := List.all_eq_true.mpr fun i hi => by
        rw [List.contains_iff_mem]
        exact List.mem_map.mpr ⟨i, ok.en.mem_iff.mpr hi, rfl⟩
      rw [a, b]; rfl
  show rdR (lanesR N.lanes :: (N.forks.map forkR ++ [endsR N.ends])) = _
  rw [rdR, lo]
  exact (pre_net N.lanes N.forks N.ends l16 ok.fk [] 1 (by have := ok.fm; simpa using this) eo).trans rfl
end Bn
namespace Bn
open PySem PySem.Spec PyProof.Rows L2 Own
theorem rows_some2 {b : Nat} {rs : List Str} (l : rs.length ≤ 140 + b) (h : ∀ r ∈ rs, RB b r) : ∃ rs', RowsB b rs' ∧ Txt.join sNl rs = Txt.join sNl rs' ∧ rs'.length ≤ rs.length + 1 := by
  obtain ⟨rs', a, e⟩ := rows_some l h
  cases rs with
  | nil =>
    refine ⟨[Str.empty], ?_, rfl, Nat.le_refl _⟩
    refine ⟨by simp, by show 1 ≤ 140 + b; lia, fun r hr => ?_⟩
    rw [List.mem_singleton.mp hr]
    exact RB.of (p := [Str.empty]) (by simp) (by show 1 ≤ 17 + b; lia) fun a ha => by
      rw [List.mem_singleton.mp ha]; exact ⟨fun c hc => absurd hc (by show ¬ c ∈ ([] : List Nat); simp), by show 0 ≤ 33 + b; lia⟩
  | cons r t => exact ⟨r :: t, ⟨by simp, l, h⟩, rfl, Nat.le_succ _⟩
end Bn
end
section
set_option maxHeartbeats 4000001
namespace K77
open PySem L2 Own Bn
abbrev sRowL : Stmt := top 40
def spRowL : Sp := fun vs H Q _ => ∃ (l : Addr) (n lanes : Nat), vs = [.ref l, .int (lanes : Nat)] ∧ StAt H l n ∧ n < 2 ^ 58 ∧ 1 ≤ lanes ∧ lanes ≤ 4 ∧ ∀ z H', RB 0 z → StAt H' l (n + 12) → But l H H' → Q (.str z) H'
theorem small_pc {xs : List Nat} (h : ∀ x ∈ xs, x ≤ 1000) : ∀ a ∈ xs.map (fun (x : Nat) => txt (x : Int)), PcB 0 a := fun a ha => by
  obtain ⟨x, hx, rfl⟩ := List.mem_map.mp ha
  exact txt_pc (h x hx) 0
theorem pc_joins {p : List Str} (h : ∀ a ∈ p, PcB 0 a) (l : p.length ≤ 40) : JoinOk (Str.ofString " ") p = true := joinS (B := 33) (fun y hy => (h y hy).2) (by
  show p.length * 33 + p.length * 1 ≤ _
  lia)
theorem fits {n : Nat} (h : n ≤ 1000) : ((n : Nat) : Int).natAbs.log2 < 1920 := fits_nat h
section
variable {P : Program} {w : World} {K : PySem.W.Frag} {mg : Str → Option Value} {base : Heap}
theorem scRw : FnScope ["_law_state", "_law_lanes", "_law_way", "_law_numbers", "_law_left", "_law_ends", "_law_k", "_law_some"] ["_law_state", "_law_lanes"] (defScope sRowL) := ⟨rfl, rfl, rfl, by decide +kernel, rfl, by decide +kernel, by decide +kernel⟩
theorem ok_rowl {f fT : Addr} {fd dT : FuncData} (F : Fun K "_law_row" "_law_row" sRowL f fd) (G : Mgs mg) (UT : Use P w K mg base "_law_take" ["_law_state", "_law_many"] 1 (spTake K) fT dT) : FnOk P w K mg base CX0 2 f fd ["_law_state", "_law_lanes"] spRowL := by
  refine F.ok scRw (fun vs H Q E h => ?_) (fun cdv A outer s H vs Q E hr h => ?_)
  · obtain ⟨l, n, lanes, rfl, _⟩ := h
    rfl
  obtain ⟨l, n, lanes, rfl, st, hn, l1, l4, k⟩ := h
  refine ⟨_, (@pss_cons _ _ _ _ _ (@ps_set _ _ 2 _ _ _ _ scRw.nd rfl (Or.inr rfl) (@pe_call _ _ _ _ _ _ _ _ _ _ _ _ _ _ _ _ UT.ok hr (by rfl) UT.m UT.kp UT.b .nil pass0 (@pa_cons _ _ _ _ _ (@pv _ 0 _ _ (by rfl) (by first | exact Or.inl rfl | exact Or.inr (Or.inl rfl) | exact Or.inr (Or.inr rfl)) (by decide) (by decide)) (@pa_cons _ _ _ _ _ pe_int pa_nil (by rfl)) (by rfl)) (by decide) (by rfl) (by rfl)) (by rfl) (by first | exact .inl rfl | exact .inr rfl | assumption)) (@pss_cons _ _ _ _ _ (@ps_setLC _ 3 _ _ _ _ none _ _ _ _ _ _ _ _ ["_law_k", "_law_state", "_law_lanes", "_law_way"] [none, some 0, some 1, some 2] scRw.nd rfl rfl rfl (@pi_range1 _ _ _ _ _ _ rfl G.range (@pa_cons _ _ _ _ _ pe_int pa_nil (by rfl)) (by rfl)) (CapOk.of (by kernel_rfl)) (fun _ _ _ _ _ => (@pg_name _ _ 0 _ (show (["_law_k", "_law_state", "_law_lanes", "_law_way"] : List Str).Nodup from by decide +kernel) rfl (Or.inl rfl) (Or.inr rfl))) (fun _ _ _ _ _ => pt_none) (fun _ _ _ _ _ => (@pe_callTy _ _ _ _ _ _ _ _ _ call_str_int (by rfl) G.str (by rfl) (@pa_cons _ _ _ _ _ (@pe_call _ _ _ _ _ _ _ _ _ _ _ _ _ _ _ _ UT.ok hr (by rfl) UT.m UT.kp UT.b .nil pass0 (@pa_cons _ _ _ _ _ (@pv _ 1 _ _ (by rfl) (by first | exact Or.inl rfl | exact Or.inr (Or.inl rfl) | exact Or.inr (Or.inr rfl)) (by decide) (by decide)) (@pa_cons _ _ _ _ _ (@pe_op _ _ _ _ _ _ _ _ op_add (@pv _ 2 _ _ (by rfl) (by first | exact Or.inl rfl | exact Or.inr (Or.inl rfl) | exact Or.inr (Or.inr rfl)) (by decide) (by decide)) (@pe_callTy _ _ _ _ _ _ _ _ _ call_int1 (by rfl) G.int (by rfl) (@pa_cons _ _ _ _ _ (@pe_cmpR _ _ _ _ _ _ _ _ op_eq (@pv _ 3 _ _ (by rfl) (by first | exact Or.inl rfl | exact Or.inr (Or.inl rfl) | exact Or.inr (Or.inr rfl)) (by decide) (by decide)) pe_int (nomark _)) pa_nil (by rfl)) (by decide) (by decide) (by rfl) (by rfl))) pa_nil (by rfl)) (by rfl)) (by decide) (by rfl) (by rfl)) pa_nil (by rfl)) (by decide) (by decide) (by rfl) (by rfl))) (by intro _; rfl) (by with_unfolding_all rfl)) (@pss_cons _ _ _ _ _ (@ps_if _ _ _ _ _ _ _ _ (@pt_cmpR _ _ _ _ _ _ _ _ op_lt (@pv _ 2 _ _ (by rfl) (by first | exact Or.inl rfl | exact Or.inr (Or.inl rfl) | exact Or.inr (Or.inr rfl)) (by decide) (by decide)) pe_int (nomark _)) (@pss_one _ _ _ (@ps_ret _ _ _ _ (@pe_bm _ _ _ _ _ _ _ _ _ _ _ _ PySem.F.plainAttrs_str PySem.F.slot_str_join PySem.F.type_str_join mt_join pe_str (@pa_cons _ _ _ _ _ (@pv _ 3 _ _ (by rfl) (by first | exact Or.inl rfl | exact Or.inr (Or.inl rfl) | exact Or.inr (Or.inr rfl)) (by decide) (by decide)) pa_nil (by rfl)) (by rfl) (by rfl) (by rfl) (by rfl) (by rfl)))) pss_nil) (@pss_cons _ _ _ _ _ (@ps_par _ _ 4 5 _ _ _ _ _ _ _ _ _ _ _ rfl scRw.nd rfl rfl (by decide) rfl rfl (@pa_cons _ _ _ _ _ (@pe_lstRng _ _ _ _ _ _ _ rfl (by rfl) G.list (by rfl) G.range (@pa_cons _ _ _ _ _ (@pv _ 1 _ _ (by rfl) (by first | exact Or.inl rfl | exact Or.inr (Or.inl rfl) | exact Or.inr (Or.inr rfl)) (by decide) (by decide)) pa_nil (by rfl)) (by rfl) (by rfl)) (@pa_cons _ _ _ _ _ (@pe_lst _ _ _ _ (@pa_cons _ _ _ _ _ pe_str pa_nil (by rfl))) pa_nil (by rfl)) (by rfl)) (by rfl) (by rfl)) (@pss_cons _ _ _ _ _ (@ps_for _ _ _ _ _ _ _ _ PassesOwn.never rfl (@pi_range1 _ _ _ _ _ _ rfl G.range (@pa_cons _ _ _ _ _ (@pe_op _ _ _ _ _ _ _ _ op_sub (@pv _ 1 _ _ (by rfl) (by first | exact Or.inl rfl | exact Or.inr (Or.inl rfl) | exact Or.inr (Or.inr rfl)) (by decide) (by decide)) (@pe_callTy _ _ _ _ _ _ _ _ _ call_int1 (by rfl) G.int (by rfl) (@pa_cons _ _ _ _ _ (@pe_cmpR _ _ _ _ _ _ _ _ op_eq (@pe_call _ _ _ _ _ _ _ _ _ _ _ _ _ _ _ _ UT.ok hr (by rfl) UT.m UT.kp UT.b .nil pass0 (@pa_cons _ _ _ _ _ (@pv _ 0 _ _ (by rfl) (by first | exact Or.inl rfl | exact Or.inr (Or.inl rfl) | exact Or.inr (Or.inr rfl)) (by decide) (by decide)) (@pa_cons _ _ _ _ _ pe_int pa_nil (by rfl)) (by rfl)) (by decide) (by rfl) (by rfl)) pe_int (nomark _)) pa_nil (by rfl)) (by decide) (by decide) (by rfl) (by rfl))) pa_nil (by rfl)) (by rfl)) (@pg_name _ _ 6 _ scRw.nd rfl (Or.inl rfl) (by first | exact .inl rfl | exact .inr rfl | assumption)) (@pss_one _ _ _ (@ps_expr _ _ _ _ (@pe_bm _ _ _ _ _ _ _ _ _ _ _ _ PySem.F.plainAttrs_list PySem.F.slot_list_append PySem.F.type_list_append mt_append (@pv _ 5 _ _ (by rfl) (by first | exact Or.inl rfl | exact Or.inr (Or.inl rfl) | exact Or.inr (Or.inr rfl)) (by decide) (by decide)) (@pa_cons _ _ _ _ _ (@pe_callTy _ _ _ _ _ _ _ _ _ call_str_int (by rfl) G.str (by rfl) (@pa_cons _ _ _ _ _ (@pe_bm _ _ _ _ _ _ _ _ _ _ _ _ PySem.F.plainAttrs_list PySem.F.slot_list_pop PySem.F.type_list_pop mt_popAt (@pv _ 4 _ _ (by rfl) (by first | exact Or.inl rfl | exact Or.inr (Or.inl rfl) | exact Or.inr (Or.inr rfl)) (by decide) (by decide)) (@pa_cons _ _ _ _ _ (@pe_call _ _ _ _ _ _ _ _ _ _ _ _ _ _ _ _ UT.ok hr (by rfl) UT.m UT.kp UT.b .nil pass0 (@pa_cons _ _ _ _ _ (@pv _ 0 _ _ (by rfl) (by first | exact Or.inl rfl | exact Or.inr (Or.inl rfl) | exact Or.inr (Or.inr rfl)) (by decide) (by decide)) (@pa_cons _ _ _ _ _ (@pe_callB _ _ _ _ _ _ _ _ _ call_len_seq (by rfl) G.len PySem.boot_len (@pa_cons _ _ _ _ _ (@pv _ 4 _ _ (by rfl) (by first | exact Or.inl rfl | exact Or.inr (Or.inl rfl) | exact Or.inr (Or.inr rfl)) (by decide) (by decide)) pa_nil (by rfl)) (by decide) (by decide) (by rfl) (by rfl)) pa_nil (by rfl)) (by rfl)) (by decide) (by rfl) (by rfl)) pa_nil (by rfl)) (by rfl) (by rfl) (by rfl) (by rfl) (by rfl)) pa_nil (by rfl)) (by decide) (by decide) (by rfl) (by rfl)) pa_nil (by rfl)) (by rfl) (by rfl) (by rfl) (by rfl) (by rfl)) (by rfl))) (by intro _; rfl)) (@pss_cons _ _ _ _ _ (@ps_set _ _ 7 _ _ _ _ scRw.nd rfl (Or.inl rfl) (@pe_lst _ _ _ _ (@pa_cons _ _ _ _ _ (@pe_bm _ _ _ _ _ _ _ _ _ _ _ _ PySem.F.plainAttrs_str PySem.F.slot_str_join PySem.F.type_str_join mt_join pe_str (@pa_cons _ _ _ _ _ (@pv _ 5 _ _ (by rfl) (by first | exact Or.inl rfl | exact Or.inr (Or.inl rfl) | exact Or.inr (Or.inr rfl)) (by decide) (by decide)) pa_nil (by rfl)) (by rfl) (by rfl) (by rfl) (by rfl) (by rfl)) (@pa_cons _ _ _ _ _ (@pe_op _ _ _ _ _ _ _ _ op_add_str pe_str (@pe_callTy _ _ _ _ _ _ _ _ _ call_str_int (by rfl) G.str (by rfl) (@pa_cons _ _ _ _ _ (@pv _ 1 _ _ (by rfl) (by first | exact Or.inl rfl | exact Or.inr (Or.inl rfl) | exact Or.inr (Or.inr rfl)) (by decide) (by decide)) pa_nil (by rfl)) (by decide) (by decide) (by rfl) (by rfl))) (@pa_cons _ _ _ _ _ pe_str (@pa_cons _ _ _ _ _ pe_str (@pa_cons _ _ _ _ _ (@pe_bm _ _ _ _ _ _ _ _ _ _ _ _ PySem.F.plainAttrs_str PySem.F.slot_str_join PySem.F.type_str_join mt_join pe_str (@pa_cons _ _ _ _ _ (@pe_op _ _ _ _ _ _ _ _ op_cat (@pv _ 3 _ _ (by rfl) (by first | exact Or.inl rfl | exact Or.inr (Or.inl rfl) | exact Or.inr (Or.inr rfl)) (by decide) (by decide)) (@pv _ 3 _ _ (by rfl) (by first | exact Or.inl rfl | exact Or.inr (Or.inl rfl) | exact Or.inr (Or.inr rfl)) (by decide) (by decide))) pa_nil (by rfl)) (by rfl) (by rfl) (by rfl) (by rfl) (by rfl)) (@pa_cons _ _ _ _ _ (@pe_bm _ _ _ _ _ _ _ _ _ _ _ _ PySem.F.plainAttrs_str PySem.F.slot_str_join PySem.F.type_str_join mt_join pe_str (@pa_cons _ _ _ _ _ (@pv _ 5 _ _ (by rfl) (by first | exact Or.inl rfl | exact Or.inr (Or.inl rfl) | exact Or.inr (Or.inr rfl)) (by decide) (by decide)) pa_nil (by rfl)) (by rfl) (by rfl) (by rfl) (by rfl) (by rfl)) pa_nil (by rfl)) (by rfl)) (by rfl)) (by rfl)) (by rfl)) (by rfl))) (by rfl) (by first | exact .inl rfl | exact .inr rfl | assumption)) (@pss_one _ _ _ (@ps_ret _ _ _ _ (@pe_ix _ _ _ _ _ _ _ ix_list (@pv _ 7 _ _ (by rfl) (by first | exact Or.inl rfl | exact Or.inr (Or.inl rfl) | exact Or.inr (Or.inr rfl)) (by decide) (by decide)) (@pe_call _ _ _ _ _ _ _ _ _ _ _ _ _ _ _ _ UT.ok hr (by rfl) UT.m UT.kp UT.b .nil pass0 (@pa_cons _ _ _ _ _ (@pv _ 0 _ _ (by rfl) (by first | exact Or.inl rfl | exact Or.inr (Or.inl rfl) | exact Or.inr (Or.inr rfl)) (by decide) (by decide)) (@pa_cons _ _ _ _ _ pe_int pa_nil (by rfl)) (by rfl)) (by decide) (by rfl) (by rfl)) (fun _ _ => rfl)))))))))), ?_⟩
  refine seq_lateR (fun Da hDa rDa => ?_)
  refine ⟨_, rfl, l, 9, n, rfl, by decide, by decide, st, by lia, fun v1 H1 v10 v11 st1 B1 => hDa _ _ ?_⟩
  clear hDa rDa
  obtain ⟨way, rfl⟩ := Int.eq_ofNat_of_zero_le v10
  refine seq_lateR (fun Db hDb rDb => ?_)
  refine ⟨2, rfl, by decide, by decide, fun lq hlq => ?_⟩
  have nlq := st1.ne hlq
  have flq := B1.frs hlq
  refine lc_range (lo := 0) (n := (2 : Int).toNat) (fun j acc σ H4 => (∃ v, σ = [v, some (.ref l), some (.int (lanes : Nat)), some (.int (way : Nat))]) ∧ H4 lq = some (.lst acc) ∧ StAt H4 l (n + 1 + j) ∧ But l H H4 ∧ ∃ xs : List Nat, acc = (xs.map fun (x : Nat) => txt (x : Int)).map V.str ∧ xs.length = j ∧ ∀ x ∈ xs, x ≤ 1000) ⟨⟨_, rfl⟩, upd_same, st1.upd nlq, B1.new hlq, [], rfl, rfl, fun x hx => by cases hx⟩ (fun j acc σ H4 q => q.2.1) ?_ ?_
  · rintro j acc σ H4 hj ⟨⟨v, rfl⟩, h4, st4, B4, xs, rfl, xl, small⟩
    have j2 : j < 2 := hj
    refine ⟨_, rfl, _, rfl, _, rfl, rfl, ?_⟩
    refine .inr ⟨_, rfl, _, _, rfl, rfl, ?_⟩
    generalize decide (V.int ((way : Nat) : Int) = V.int 8) = e8
    refine ⟨l, _, _, rfl, ?_, ?_, st4, by lia, fun v2 H5 v20 v21 st5 B5 => ?_⟩
    · cases e8 <;> simp <;> lia
    · cases e8 <;> simp <;> lia
    obtain ⟨x, rfl⟩ := Int.eq_ofNat_of_zero_le v20
    have x5 : x ≤ 1000 := by
      have : ((x : Nat) : Int) < (lanes : Nat) + 1 := by cases e8 <;> simp at v21 <;> lia
      lia
    refine ⟨_, rfl, fits x5, ?_⟩
    have h5 := B5 _ _ h4 nlq.symm
    refine ⟨h5, by rw [List.length_map, List.length_map, xl, sizeLine_eq]; lia, nx hj ⟨⟨_, rfl⟩, upd_same, (st5.upd nlq).mono (by lia), (B4.trans B5).upd flq, xs ++ [x], ?_, by rw [List.length_append, xl]; rfl, fun y hy => ?_⟩⟩
    · rw [List.map_append, List.map_append]; rfl
    · rcases List.mem_append.mp hy with q | q
      · exact small y q
      · rw [List.mem_singleton.mp q]; exact x5
  rintro acc σ H2 ⟨⟨v, rfl⟩, h2, st2, B2, xs, rfl, xl, small⟩
  refine hDb _ _ ?_
  clear hDb rDb
  have pcx := small_pc small
  have pl : (xs.map fun (x : Nat) => txt (x : Int)).length = 2 := by rw [List.length_map]; exact xl
  generalize xs.map (fun (x : Nat) => txt (x : Int)) = zs at pcx pl h2
  refine seq_lateR (fun Dc hDc rDc => ?_)
  refine ⟨_, rfl, _, _, rfl, rfl, _, rfl, ?_⟩
  have zne : zs ≠ [] := fun e => by rw [e] at pl; cases pl
  by_cases w6 : way < 6
  · rw [decide_eq_true (show ((way : Nat) : Int) < 6 by lia)]
    refine iteT ⟨rfl, _, rfl, _, lq, zs, rfl, rfl, SqL.of h2, pc_joins pcx (by lia), rDc _ _ ?_⟩
    rw [s_sp]
    exact k _ H2 (RB.of zne (by lia) pcx) (st2.mono (by show n + 1 + 2 ≤ _; lia)) B2
  rw [decide_eq_false (show ¬ ((way : Nat) : Int) < 6 by lia)]
  refine iteF (hDc _ _ ?_)
  clear hDc rDc
  refine seq_lateR (fun Dd hDd rDd => ?_)
  refine ⟨_, rfl, lanes, rfl, by lia, fun ll hll => ⟨by show 1 ≤ sizeLine; decide, fun le hle => ⟨_, _, rfl, hDd _ _ ?_⟩⟩⟩
  clear hDd rDd
  have sl := same_new hll (if true = true then HO.lst (L2.upTo lanes) else .tup (L2.upTo lanes))
  have hL3 : L2.upd H2 ll (if true = true then HO.lst (L2.upTo lanes) else .tup (L2.upTo lanes)) ll = some (.lst (nums (List.range lanes))) := upd_same
  have nll := st2.ne hll
  have fll := B2.frs hll
  have h3 := sl _ _ h2
  have st3 := st2.keep sl
  have B3 := B2.trans (But.of sl)
  generalize L2.upd H2 ll (if true = true then HO.lst (L2.upTo lanes) else .tup (L2.upTo lanes)) = H3 at sl hL3 h3 st3 B3 hle ⊢
  have sle := same_new hle (.lst [.str "ends"])
  have nle := st3.ne hle
  have fle := B3.frs hle
  have nel : ll ≠ le := ne_of_none hL3 hle
  have nqe : lq ≠ le := ne_of_none h3 hle
  have nql : lq ≠ ll := ne_of_none h2 hll
  have hE4 := atNew hle (.lst [.str "ends"])
  have hL4 := sle _ _ hL3
  have h4 := sle _ _ h3
  have st4 := st3.keep sle
  have B4 := B3.trans (But.of sle)
  generalize L2.upd H3 le (.lst [.str "ends"]) = H4 at sle hE4 hL4 h4 st4 B4 ⊢
  refine seq_lateR (fun De hDe rDe => ?_)
  refine ⟨_, rfl, _, rfl, l, 8, _, rfl, by decide, by decide, st4, by show n + 1 + 2 < _; lia, fun v5 H5 v50 v51 st5 B5 => ⟨rfl, .inr ⟨_, rfl, _, _, rfl, rfl, ?_⟩⟩⟩
  generalize decide (V.int v5 = V.int 0) = e0
  have hE5 := B5 _ _ hE4 nle.symm
  have hL5 := B5 _ _ hL4 nll.symm
  have h5 := B5 _ _ h4 nlq.symm
  have B5' := B4.trans B5
  obtain ⟨many, em, ml⟩ : ∃ many : Nat, ((lanes : Nat) : Int) - (if e0 = true then 1 else 0) = (many : Nat) ∧ many ≤ lanes := by
    cases e0
    · exact ⟨lanes, by simp, by lia⟩
    · exact ⟨lanes - 1, by simp; lia, by lia⟩
  dsimp only
  rw [em]
  refine ⟨_, rfl, by lia, by lia, ?_⟩
  refine for_range (lo := 0) (n := ((many : Nat) : Int).toNat) (fun i σ H7 => (∃ w6, σ = [some (.ref l), some (.int (lanes : Nat)), some (.int (way : Nat)), some (.ref lq), some (.ref ll), some (.ref le), w6, none]) ∧ StAt H7 l (n + 4 + i) ∧ But l H H7 ∧ H7 lq = some (.lst (zs.map V.str)) ∧ ∃ es ls : List Nat, H7 le = some (.lst ((Str.ofString "ends" :: es.map fun (e : Nat) => txt (e : Int)).map V.str)) ∧ H7 ll = some (.lst (nums ls)) ∧ es.length = i ∧ es.length + ls.length = lanes ∧ (∀ x ∈ es, x ≤ 1000) ∧ ∀ x ∈ ls, x ≤ 1000)
    ⟨⟨_, rfl⟩, st5.mono (by show n + 1 + 2 + 1 ≤ _; lia), B5', h5, [], List.range lanes, hE5, hL5, rfl, by rw [List.length_range]; exact Nat.zero_add _, (fun x hx => by cases hx), fun x hx => by have := List.mem_range.mp hx; lia⟩ ?_ ?_
  · rintro i σ H7 hi ⟨⟨w6, rfl⟩, S7, B7, hq7, es, ls, hE7, hL7, el, esl, e9, l9⟩
    have il : i < many := by lia
    refine ⟨_, rfl, .inl ⟨rfl, _, SqL.of hE7⟩, _, rfl, .inl ⟨rfl, _, SqL.of hL7⟩, _, rfl, _, rfl, ll, _, rfl, .inl (SqL.of hL7), l, _, _, rfl, by rw [nums_len]; lia, by rw [nums_len]; lia, S7, by lia, fun v4 H8 v40 v41 S8 B8 => ?_⟩
    obtain ⟨kk, rfl⟩ := Int.eq_ofNat_of_zero_le v40
    rw [nums_len] at v41
    have kl : kk < ls.length := by lia
    have hL8 := B8 ll _ hL7 nll.symm
    have hE8 := B8 le _ hE7 nle.symm
    have hq8 := B8 lq _ hq7 nlq.symm
    refine ⟨ll, _, _, kk, .int ls[kk], rfl, rfl, hL8, by lia, by lia, ?_, ?_, ?_⟩
    · have := (ixN_seq (ix_at (xs := nums ls) (i := kk) (by rw [nums_len]; exact kl))).1; exact this
    · unfold nums; rw [List.getElem?_map, List.getElem?_eq_getElem kl]; rfl
    have x9 := l9 _ (List.getElem_mem kl)
    refine ⟨_, rfl, fits x9, ?_⟩
    have hE9 : L2.upd H8 ll (.lst ((nums ls).eraseIdx kk)) le = some (.lst ((Str.ofString "ends" :: es.map fun (e : Nat) => txt (e : Int)).map V.str)) := by rw [upd_ne nel.symm]; exact hE8
    refine ⟨le, _, _, rfl, rfl, hE9, by rw [List.length_map, List.length_cons, List.length_map, sizeLine_eq]; lia, ⟨_, rfl⟩, ((S8.upd nll).upd nle).mono (by lia), ((B7.trans B8).upd fll).upd fle, ?_, es ++ [ls[kk]], ls.eraseIdx kk, ?_, ?_, by rw [List.length_append, el]; rfl, ?_, ?_, ?_⟩
    · rw [upd_ne nqe, upd_ne nql]; exact hq8
    · rw [upd_same, List.map_append, List.map_cons, List.map_cons, List.map_append]; rfl
    · rw [upd_ne nel, upd_same, nums_erase]
    · rw [List.length_append, List.length_eraseIdx, if_pos kl]; show es.length + 1 + _ = _; lia
    · intro x hx
      rcases List.mem_append.mp hx with q | q
      · exact e9 x q
      · rw [List.mem_singleton.mp q]; exact x9
    · exact fun x hx => l9 x (List.mem_of_mem_eraseIdx hx)
  rintro σ H7 ⟨⟨w6, rfl⟩, S7, B7, hq7, es, ls, hE7, hL7, el, esl, e9, l9⟩
  refine hDe _ _ ?_
  clear hDe rDe
  have el4 : es.length ≤ 4 := by lia
  have S7' : StAt H7 l (n + 8) := S7.mono (by lia)
  clear S7
  have pce : ∀ a ∈ (Str.ofString "ends" :: es.map fun (e : Nat) => txt (e : Int)), PcB 0 a := fun a ha => by
    rcases (List.mem_cons.1 ha) with rfl | ha
    · exact ⟨by decide, by decide⟩
    · exact small_pc e9 a ha
  have pel : (Str.ofString "ends" :: es.map fun (e : Nat) => txt (e : Int)).length ≤ 5 := by rw [List.length_cons, List.length_map]; lia
  have pen : (Str.ofString "ends" :: es.map fun (e : Nat) => txt (e : Int)) ≠ [] := by simp
  generalize (Str.ofString "ends" :: es.map fun (e : Nat) => txt (e : Int)) = ps at pce pel pen hE7
  refine seq_lateR (fun Df hDf rDf => ?_)
  refine ⟨rfl, _, rfl, _, le, ps, rfl, rfl, SqL.of hE7, pc_joins pce (by lia), ?_⟩
  refine ⟨_, rfl, _, rfl, fits (show lanes ≤ 1000 by lia), _, _, rfl, rfl, ?_, ?_⟩
  · have := txt_small (n := lanes) (by lia)
    show (Str.ofString "lanes ").length + (txt (lanes : Nat)).length ≤ sizeLine
    rw [show (Str.ofString "lanes ").length = 6 by decide, sizeLine_eq]; lia
  refine ⟨rfl, _, rfl, _, rfl, lq, lq, _, _, rfl, rfl, hq7, hq7, by rw [List.length_map, pl]; decide, fun lz hlz => ?_⟩
  have sz := same_new hlz (.lst (zs.map V.str ++ zs.map V.str))
  have hz : L2.upd H7 lz (.lst (zs.map V.str ++ zs.map V.str)) lz = some (.lst ((zs ++ zs).map V.str)) := by rw [upd_same, List.map_append]
  have hE8 := sz _ _ hE7
  have S8 := S7'.keep sz
  have B8 := B7.trans (But.of sz)
  generalize L2.upd H7 lz (.lst (zs.map V.str ++ zs.map V.str)) = H8 at sz hz hE8 S8 B8 ⊢
  have pzz : ∀ a ∈ zs ++ zs, PcB 0 a := fun a ha => by
    rcases List.mem_append.mp ha with q | q <;> exact pcx a q
  refine ⟨_, lz, zs ++ zs, rfl, rfl, SqL.of hz, pc_joins pzz (by rw [List.length_append]; lia), rfl, _, rfl, _, le, ps, rfl, rfl, SqL.of hE8, pc_joins pce (by lia), by show 6 ≤ sizeLine; decide, fun lo hlo => hDf _ _ ?_⟩
  clear hDf rDf
  have rows6 : ∀ r ∈ [Txt.join (Str.ofString " ") ps, Str.ofString "lanes " ++ txt (lanes : Nat), Str.ofString "", Str.ofString "lanes", Txt.join (Str.ofString " ") (zs ++ zs), Txt.join (Str.ofString " ") ps], RB 0 r := by
    intro r hr
    simp only [List.mem_cons, List.mem_nil_iff, or_false] at hr
    rcases hr with rfl | rfl | rfl | rfl | rfl | rfl
    · rw [s_sp]; exact RB.of pen (by lia) pce
    · have e : Str.ofString "lanes " ++ txt (lanes : Nat) = lanesR lanes := rfl
      rw [e, lanesR_join]
      refine RB.of (by simp) (by show 2 ≤ 17; decide) fun a ha => ?_
      rcases (List.mem_cons.1 ha) with rfl | ha
      · exact ⟨by decide, by decide⟩
      · rw [List.mem_singleton.mp ha]; exact txt_pc (by lia) 0
    · exact RB.of (p := [Str.ofString ""]) (by simp) (by show 1 ≤ 17; decide) fun a ha => by rw [List.mem_singleton.mp ha]; exact ⟨by decide, by decide⟩
    · exact RB.of (p := [Str.ofString "lanes"]) (by simp) (by show 1 ≤ 17; decide) fun a ha => by rw [List.mem_singleton.mp ha]; exact ⟨by decide, by decide⟩
    · rw [s_sp]; exact RB.of (by simp [zne]) (by rw [List.length_append]; lia) pzz
    · rw [s_sp]; exact RB.of pen (by lia) pce
  have rl6 : [Txt.join (Str.ofString " ") ps, Str.ofString "lanes " ++ txt (lanes : Nat), Str.ofString "", Str.ofString "lanes", Txt.join (Str.ofString " ") (zs ++ zs), Txt.join (Str.ofString " ") ps].length = 6 := rfl
  have so : Same H8 (L2.upd H8 lo (.lst ([Txt.join (Str.ofString " ") ps, Str.ofString "lanes " ++ txt (lanes : Nat), Str.ofString "", Str.ofString "lanes", Txt.join (Str.ofString " ") (zs ++ zs), Txt.join (Str.ofString " ") ps].map V.str))) := same_new hlo _
  have ho := atNew hlo (.lst ([Txt.join (Str.ofString " ") ps, Str.ofString "lanes " ++ txt (lanes : Nat), Str.ofString "", Str.ofString "lanes", Txt.join (Str.ofString " ") (zs ++ zs), Txt.join (Str.ofString " ") ps].map V.str))
  have nlo := S8.ne hlo
  change tRet _ _ _ (L2.upd H8 lo (.lst ([Txt.join (Str.ofString " ") ps, Str.ofString "lanes " ++ txt (lanes : Nat), Str.ofString "", Str.ofString "lanes", Txt.join (Str.ofString " ") (zs ++ zs), Txt.join (Str.ofString " ") ps].map V.str)))
  generalize [Txt.join (Str.ofString " ") ps, Str.ofString "lanes " ++ txt (lanes : Nat), Str.ofString "", Str.ofString "lanes", Txt.join (Str.ofString " ") (zs ++ zs), Txt.join (Str.ofString " ") ps] = six at rows6 rl6 so ho ⊢
  generalize L2.upd H8 lo (.lst (six.map V.str)) = H9 at so ho ⊢
  refine ⟨_, rfl, _, rfl, l, 6, _, rfl, by decide, by decide, S8.keep so, by lia, fun v H10 v0 v1 S10 B10 => ?_⟩
  obtain ⟨m, rfl⟩ := Int.eq_ofNat_of_zero_le v0
  have ml : m < six.length := by lia
  refine ⟨lo, _, _, V.str six[m], rfl, rfl, SqL.of (B10 _ _ ho nlo.symm), atI_nat (by rw [List.getElem?_map, List.getElem?_eq_getElem ml]; rfl), ?_⟩
  exact k _ H10 (rows6 _ (List.getElem_mem ml)) (S10.mono (by lia)) ((B8.trans (But.of so)).trans B10)
end
end K77
end
section
set_option maxHeartbeats 4000001
namespace L2
open PySem PySem.Spec PyProof.Rows Own
def ItS (lo c : Int) (n : Nat) : It := ⟨fun i _ => i < n, fun i H x H' => H' = H ∧ x = .int (lo + (i : Nat) * c), fun i _ => n ≤ i⟩
theorem turn_rangeS {P : Program} {w : World} {K : PySem.W.Frag} {tg : Expr} (it : Addr) (lo c : Int) (n : Nat) : Turn P w K tg (ItS lo c n) [it] it (fun i h => IsRangeIter h it (lo + (i : Nat) * c) ((n : Int) - (i : Nat)) c) where
  mem := List.mem_singleton.mpr rfl
  obj := fun i h st b hb => by
    have only := List.mem_singleton.mp hb
    subst only
    exact ⟨_, st, fun v z => nomatch (show Data.fields _ = Data.cell v from z)⟩
  keep := fun i h h' st k => k it (List.mem_singleton.mpr rfl) _ st
  item := by
    intro X hP hw hK hc i pins s σ H E I hf st hg
    subst hP hw hK
    have own := hf it (List.mem_singleton.mpr rfl)
    refine (Walks.range (prog := X.prog) (w := X.w) (I.ok.hd hc) it lo c n).item i s _ _ hg st fun v h' tk hv st' kk => ?_
    obtain ⟨t, rfl⟩ := hv
    have I1 : Inv X pins σ H { s with heap := h', toks := tk } := I.turned (fun b o hb e => kk b o (fun m => hb (List.mem_singleton.mp m)) e) own.1 own.2.1 own.2.2.2.1 own.2.2.2.2.1 own.2.2.2.2.2
    exact ⟨_, rfl, go_of (s := { s with heap := h', toks := tk }) (n := "range_iterator") st' rfl rfl (by decide) ⟨.int (lo + (i : Nat) * c), H, I1, ⟨t, rfl⟩, ⟨rfl, rfl⟩, st', fun b hb => (hf b hb).1⟩⟩
  done := by
    intro X hP hw hK hc i pins s σ H E I hf st hg
    subst hP hw hK
    have own := hf it (List.mem_singleton.mpr rfl)
    exact wpAny_pyNext_range_end (I.ok.hd hc) st (by have : n ≤ i := hg; lia) fun h' eb => ⟨rfl, I.turned (t' := s.toks) (fun b o hb e => eb b o hb e) own.1 own.2.1 own.2.2.2.1 own.2.2.2.2.1 own.2.2.2.2.2⟩
  self := fun _ _ _ _ _ st h => wpAny_pyIter_rangeiter st h
section
variable {X : Cx} {tg : Expr}
end
theorem lc_rangeS {lo c : Int} {n : Nat} {g : TG} {te : TE} {l : Addr} {σ : St} {H : Hp} {Q : VK} (Pv : Nat → List V → St → Hp → Prop) (h0 : Pv 0 [] σ H) (hl : ∀ i acc σ H, Pv i acc σ H → H l = some (.lst acc))
    (hs : ∀ i acc σ H, i < n → Pv i acc σ H → g (.int (lo + (i : Nat) * c)) σ H fun σ3 H3 => te σ3 H3 fun y H5 => H5 l = some (.lst acc) ∧ acc.length < sizeLine ∧ Nx n i (Pv (i + 1) (acc ++ [y]) σ3 (upd H5 l (.lst (acc ++ [y])))))
    (hd : ∀ acc σ H, Pv n acc σ H → Q (.ref l) H) : ∃ W : Nat → Nat → List V → St → Hp → Prop, (∃ m, W 0 m [] σ H) ∧ LCW (ItS lo c n) g tYes te l Q W := by
  refine ⟨fun i m acc σ H => m = n - i ∧ i ≤ n ∧ Pv i acc σ H, ⟨n, rfl, Nat.zero_le _, h0⟩, ?_⟩
  rintro i m acc σ H ⟨rfl, hi, p⟩
  refine ⟨hl i acc σ H p, ?_⟩
  by_cases more : i < n
  · refine .inr ⟨more, fun x H2 ⟨e, y⟩ => ?_⟩
    subst e y
    exact hs i acc σ _ more p
  · obtain rfl : i = n := by lia
    exact .inl ⟨Nat.le_refl _, hd acc σ H p⟩
end L2
end
section
set_option maxHeartbeats 4000001
namespace L2
open PySem PySem.Spec PyProof.Rows Own
section
variable {X : Cx} {tg : Expr}
def iRngD (ta : TA) : TI := fun σ H R => ta σ H fun vs H1 => ∃ (lo hi c : Int) (n : Nat), vs = [.int lo, .int hi, .int c] ∧ c ≠ 0 ∧ c.natAbs ≤ 1000000 ∧ Builtin.Range.small lo hi c = true ∧ Builtin.Range.rangeSize lo hi c = (n : Int) ∧ R (ItS lo c n) H1
theorem pi_rangeD {a b d : Expr} {ta : TA} {p pos : Pos} (hg : Gl X "range") (hm : X.mg "range" = none) (ha : PA X [a, b, d] ta) (hs : starEach [a, b, d] X.env = [(false, eval a X.env), (false, eval b X.env), (false, eval d X.env)] := by rfl) (hs2 : starEach [b, d] X.env = [(false, eval b X.env), (false, eval d X.env)] := by rfl) :
    PI X tg (.Call (.Name "range" p) [a, b, d] [] pos) (iRngD ta) := by
  intro pins s σ H R I h
  refine Call_ (ld_blt I hg hm boot_range (PyProof.Rows.callWith_type1 (thn (ha pos pins s σ H _ I h) fun us s1 ⟨vs, H1, I1, r1, q1⟩ => ?_) (by rw [hs, hs2]) (by rw [hs2]; rfl)))
  obtain ⟨lo, hi, c, n, rfl, c1, c2, sm, sz, q⟩ := q1
  cases r1 with
  | cons r rr =>
  cases rr with
  | cons r' rr =>
  cases rr with
  | cons r'' rr =>
  cases rr
  obtain ⟨t, rfl⟩ := r
  obtain ⟨t', rfl⟩ := r'
  obtain ⟨t'', rfl⟩ := r''
  refine call_range_3 (by lia) ?_ (.inl (PyProof.noPylong_small (by lia)))
  refine wpAny_pyIter_range (IsRange.new ..) sm ?_
  have I2 : Inv X pins σ H1 { s1 with heap := s1.heap.push { cls := .type "range", data := .fields #[.int lo t, .int hi t', .int c t''] }, toks := s1.toks } := I1.kept fun b o e => Heap.get?_push_of_some _ e
  refine ⟨_, [(s1.heap.push { cls := .type "range", data := .fields #[.int lo t, .int hi t', .int c t''] }).objs.size], _, _, H1, rfl, I2.kept (t' := s1.toks) fun b o e => Heap.get?_push_of_some _ e, turn_rangeS _ lo c n, ?_, fun b hb => ?_, q⟩
  · show IsRangeIter _ _ (lo + ((0 : Nat) : Int) * c) ((n : Int) - ((0 : Nat) : Int)) c
    rw [show lo + ((0 : Nat) : Int) * c = lo by simp, show (n : Int) - ((0 : Nat) : Int) = Builtin.Range.rangeSize lo hi c by rw [sz]; simp]
    exact Heap.get?_push_size _ rfl
  · have only := List.mem_singleton.mp hb
    subst only
    exact I2.fpOk (Nat.le_refl _) (I2.hok.fresh (Nat.le_refl _))
end
end L2
end
section
set_option maxHeartbeats 4000001
namespace K77
open PySem L2 Own Bn
abbrev sTextL : Stmt := top 41
def spTextL : Sp := fun vs H Q _ => ∃ (l : Addr) (n : Nat), vs = [.ref l] ∧ StAt H l n ∧ n < 2 ^ 57 ∧ ∀ rows H', RowsB 0 rows → rows.length ≤ 9 → StAt H' l (n + 100) → But l H H' → Q (.str (Txt.join sNl rows)) H'
theorem seq_via {c : TT} {ta tb u : TS} {D : Ends} {σ : St} {H : Hp} (I : St → Hp → Prop) (key : ∀ σ H, I σ H → u D σ H) (h : ∀ D' : Ends, (∀ σ H, I σ H → D'.nx σ H) → tIfS c ta tb D' σ H) : tSeq (tIfS c ta tb) u D σ H := h { D with nx := u D } key
section
variable {P : Program} {w : World} {K : PySem.W.Frag} {mg : Str → Option Value} {base : Heap}
theorem scTx : FnScope ["_law_state", "_law_lanes", "_law_rows"] ["_law_state"] (defScope sTextL) := ⟨rfl, rfl, rfl, by decide +kernel, rfl, by decide +kernel, by decide +kernel⟩
theorem ok_textl {f fT fR : Addr} {fd dT dR : FuncData} (F : Fun K "_law_text" "_law_text" sTextL f fd) (G : Mgs mg) (UT : Use P w K mg base "_law_take" ["_law_state", "_law_many"] 1 (spTake K) fT dT) (UR : Use P w K mg base "_law_row" ["_law_state", "_law_lanes"] 2 spRowL fR dR) : FnOk P w K mg base CX0 3 f fd ["_law_state"] spTextL := by
  refine F.ok scTx (fun vs H Q E h => ?_) (fun cdv A outer s H vs Q E hr h => ?_)
  · obtain ⟨l, n, rfl, _⟩ := h
    rfl
  obtain ⟨l, n, rfl, st, hn, k⟩ := h
  have hr1 : Room 1 _ := hr.mono (by decide)
  refine ⟨_, (@pss_cons _ _ _ _ _ (@ps_set _ _ 1 _ _ _ _ scTx.nd rfl (Or.inr rfl) (@pe_op _ _ _ _ _ _ _ _ op_add pe_int (@pe_call _ _ _ _ _ _ _ _ _ _ _ _ _ _ _ _ UT.ok hr1 (by rfl) UT.m UT.kp UT.b .nil pass0 (@pa_cons _ _ _ _ _ (@pv _ 0 _ _ (by rfl) (by first | exact Or.inl rfl | exact Or.inr (Or.inl rfl) | exact Or.inr (Or.inr rfl)) (by decide) (by decide)) (@pa_cons _ _ _ _ _ pe_int pa_nil (by rfl)) (by rfl)) (by decide) (by rfl) (by rfl))) (by rfl) (by first | exact .inl rfl | exact .inr rfl | assumption)) (@pss_cons _ _ _ _ _ (@ps_set _ _ 2 _ _ _ _ scTx.nd rfl (Or.inl rfl) (@pe_op _ _ _ _ _ _ _ _ op_rep (@pe_lst _ _ _ _ (@pa_cons _ _ _ _ _ (@pe_op _ _ _ _ _ _ _ _ op_add_str pe_str (@pe_callTy _ _ _ _ _ _ _ _ _ call_str_int (by rfl) G.str (by rfl) (@pa_cons _ _ _ _ _ (@pv _ 1 _ _ (by rfl) (by first | exact Or.inl rfl | exact Or.inr (Or.inl rfl) | exact Or.inr (Or.inr rfl)) (by decide) (by decide)) pa_nil (by rfl)) (by decide) (by decide) (by rfl) (by rfl))) pa_nil (by rfl))) (@pe_callTy _ _ _ _ _ _ _ _ _ call_int1 (by rfl) G.int (by rfl) (@pa_cons _ _ _ _ _ (@pe_cmpR _ _ _ _ _ _ _ _ op_gt (@pe_call _ _ _ _ _ _ _ _ _ _ _ _ _ _ _ _ UT.ok hr1 (by rfl) UT.m UT.kp UT.b .nil pass0 (@pa_cons _ _ _ _ _ (@pv _ 0 _ _ (by rfl) (by first | exact Or.inl rfl | exact Or.inr (Or.inl rfl) | exact Or.inr (Or.inr rfl)) (by decide) (by decide)) (@pa_cons _ _ _ _ _ pe_int pa_nil (by rfl)) (by rfl)) (by decide) (by rfl) (by rfl)) pe_int (nomark _)) pa_nil (by rfl)) (by decide) (by decide) (by rfl) (by rfl))) (by rfl) (by first | exact .inl rfl | exact .inr rfl | assumption)) (@pss_cons _ _ _ _ _ (@ps_set _ _ 2 _ _ _ _ scTx.nd rfl (Or.inl rfl) (@pe_op _ _ _ _ _ _ _ _ op_cat (@pv _ 2 _ _ (by rfl) (by first | exact Or.inl rfl | exact Or.inr (Or.inl rfl) | exact Or.inr (Or.inr rfl)) (by decide) (by decide)) (@pe_lc _ _ _ _ none _ _ _ _ _ _ ["_law_k", "_law_state", "_law_lanes"] [none, some 0, some 1] rfl (@pi_range1 _ _ _ _ _ _ rfl G.range (@pa_cons _ _ _ _ _ (@pe_call _ _ _ _ _ _ _ _ _ _ _ _ _ _ _ _ UT.ok hr1 (by rfl) UT.m UT.kp UT.b .nil pass0 (@pa_cons _ _ _ _ _ (@pv _ 0 _ _ (by rfl) (by first | exact Or.inl rfl | exact Or.inr (Or.inl rfl) | exact Or.inr (Or.inr rfl)) (by decide) (by decide)) (@pa_cons _ _ _ _ _ pe_int pa_nil (by rfl)) (by rfl)) (by decide) (by rfl) (by rfl)) pa_nil (by rfl)) (by rfl)) (CapOk.of (by kernel_rfl)) (fun _ _ _ _ _ => (@pg_name _ _ 0 _ (show (["_law_k", "_law_state", "_law_lanes"] : List Str).Nodup from by decide +kernel) rfl (Or.inl rfl) (Or.inr rfl))) (fun _ _ _ _ _ => pt_none) (fun _ _ _ _ _ => (@pe_call _ _ _ _ _ _ _ _ _ _ _ _ _ _ _ _ UR.ok hr (by rfl) UR.m UR.kp UR.b .nil pass0 (@pa_cons _ _ _ _ _ (@pv _ 1 _ _ (by rfl) (by first | exact Or.inl rfl | exact Or.inr (Or.inl rfl) | exact Or.inr (Or.inr rfl)) (by decide) (by decide)) (@pa_cons _ _ _ _ _ (@pv _ 2 _ _ (by rfl) (by first | exact Or.inl rfl | exact Or.inr (Or.inl rfl) | exact Or.inr (Or.inr rfl)) (by decide) (by decide)) pa_nil (by rfl)) (by rfl)) (by decide) (by rfl) (by rfl))) (by intro _; rfl))) (by rfl) (by first | exact .inl rfl | exact .inr rfl | assumption)) (@pss_cons _ _ _ _ _ (@ps_if _ _ _ _ _ _ _ _ (@pt_cmpR _ _ _ _ _ _ _ _ op_gt (@pe_call _ _ _ _ _ _ _ _ _ _ _ _ _ _ _ _ UT.ok hr1 (by rfl) UT.m UT.kp UT.b .nil pass0 (@pa_cons _ _ _ _ _ (@pv _ 0 _ _ (by rfl) (by first | exact Or.inl rfl | exact Or.inr (Or.inl rfl) | exact Or.inr (Or.inr rfl)) (by decide) (by decide)) (@pa_cons _ _ _ _ _ pe_int pa_nil (by rfl)) (by rfl)) (by decide) (by rfl) (by rfl)) pe_int (nomark _)) (@pss_one _ _ _ (@ps_expr _ _ _ _ (@pe_bm _ _ _ _ _ _ _ _ _ _ _ _ PySem.F.plainAttrs_list PySem.F.slot_list_append PySem.F.type_list_append mt_append (@pv _ 2 _ _ (by rfl) (by first | exact Or.inl rfl | exact Or.inr (Or.inl rfl) | exact Or.inr (Or.inr rfl)) (by decide) (by decide)) (@pa_cons _ _ _ _ _ (@pe_bm _ _ _ _ _ _ _ _ _ _ _ _ PySem.F.plainAttrs_str PySem.F.slot_str_join PySem.F.type_str_join mt_join pe_str (@pa_cons _ _ _ _ _ (@pe_op _ _ _ _ _ _ _ _ op_cat (@pe_lst _ _ _ _ (@pa_cons _ _ _ _ _ pe_str pa_nil (by rfl))) (@pe_lc _ _ _ _ none _ _ _ _ _ _ ["_law_lane"] [none] rfl (pi_rangeD rfl G.range (@pa_cons _ _ _ _ _ (@pe_op _ _ _ _ _ _ _ _ op_sub (@pv _ 1 _ _ (by rfl) (by first | exact Or.inl rfl | exact Or.inr (Or.inl rfl) | exact Or.inr (Or.inr rfl)) (by decide) (by decide)) pe_int) (@pa_cons _ _ _ _ _ (@pe_un _ _ _ _ _ _ un_neg pe_int) (@pa_cons _ _ _ _ _ (@pe_un _ _ _ _ _ _ un_neg pe_int) pa_nil (by rfl)) (by rfl)) (by rfl))) (CapOk.of (by kernel_rfl)) (fun _ _ _ _ _ => (@pg_name _ _ 0 _ (show (["_law_lane"] : List Str).Nodup from by decide +kernel) rfl (Or.inl rfl) (Or.inr rfl))) (fun _ _ _ _ _ => pt_none) (fun _ _ _ _ _ => (@pe_callTy _ _ _ _ _ _ _ _ _ call_str_int (by rfl) G.str (by rfl) (@pa_cons _ _ _ _ _ (@pv _ 0 _ _ (by rfl) (by first | exact Or.inl rfl | exact Or.inr (Or.inl rfl) | exact Or.inr (Or.inr rfl)) (by decide) (by decide)) pa_nil (by rfl)) (by decide) (by decide) (by rfl) (by rfl))) (by intro _; rfl))) pa_nil (by rfl)) (by rfl) (by rfl) (by rfl) (by rfl) (by rfl)) pa_nil (by rfl)) (by rfl) (by rfl) (by rfl) (by rfl) (by rfl)) (by rfl))) pss_nil) (@pss_one _ _ _ (@ps_ret _ _ _ _ (@pe_bm _ _ _ _ _ _ _ _ _ _ _ _ PySem.F.plainAttrs_str PySem.F.slot_str_join PySem.F.type_str_join mt_join pe_str (@pa_cons _ _ _ _ _ (@pv _ 2 _ _ (by rfl) (by first | exact Or.inl rfl | exact Or.inr (Or.inl rfl) | exact Or.inr (Or.inr rfl)) (by decide) (by decide)) pa_nil (by rfl)) (by rfl) (by rfl) (by rfl) (by rfl) (by rfl)))))))), ?_⟩
  refine seq_lateR (fun Da hDa rDa => ?_)
  refine ⟨_, rfl, l, 4, n, rfl, by decide, by decide, st, by lia, fun v1 H1 v10 v11 st1 B1 => ⟨_, _, rfl, rfl, hDa _ _ ?_⟩⟩
  clear hDa rDa
  obtain ⟨lanes, el, l1, l4⟩ : ∃ lanes : Nat, (1 : Int) + v1 = (lanes : Nat) ∧ 1 ≤ lanes ∧ lanes ≤ 4 := ⟨(1 + v1).toNat, by lia, by lia, by lia⟩
  dsimp only
  rw [el]
  refine seq_lateR (fun Db hDb rDb => ?_)
  refine ⟨_, rfl, _, rfl, fits (show lanes ≤ 1000 by lia), _, _, rfl, rfl, ?_, by show 1 ≤ sizeLine; decide, fun p hp => ?_⟩
  · have := txt_small (n := lanes) (by lia)
    show (Str.ofString "lanes ").length + (txt (lanes : Nat)).length ≤ sizeLine
    rw [show (Str.ofString "lanes ").length = 6 by decide, sizeLine_eq]; lia
  have s2 : Same H1 (L2.upd H1 p (.lst [.str (lanesR lanes)])) := same_new hp _
  have h2 : L2.upd H1 p (.lst [.str (lanesR lanes)]) p = some (.lst [.str (lanesR lanes)]) := upd_same
  have np := st1.ne hp
  have st2 := st1.keep s2
  have B2 := B1.trans (But.of s2)
  have eL : (.lst [V.str (Str.ofString "lanes " ++ Str.ofString (toString ((lanes : Nat) : Int)))] : HO) = .lst [.str (lanesR lanes)] := rfl
  rw [eL]
  generalize L2.upd H1 p (.lst [.str (lanesR lanes)]) = H2 at s2 h2 st2 B2 ⊢
  refine ⟨_, rfl, l, 10, _, rfl, by decide, by decide, st2, by lia, fun v2 H3 v20 v21 st3 B3 => ⟨_, _, rfl, rfl, ?_⟩⟩
  dsimp only
  generalize decide (0 < v2) = b0
  have h3 := B3 _ _ h2 np.symm
  refine .inr ⟨b0, rfl, p, _, _, rfl, rfl, h3, ?_, ?_, ?_, fun o ho => hDb _ _ ?_⟩
  · cases b0 <;> decide
  · cases b0 <;> decide
  · rw [sizeLine_eq]; cases b0 <;> simp
  clear hDb rDb
  obtain ⟨r0, e0, r0l, r0b⟩ : ∃ r0 : List Str, (List.replicate (if b0 = true then (1 : Int) else 0).toNat [V.str (lanesR lanes)]).flatten = r0.map V.str ∧ r0.length ≤ 1 ∧ ∀ r ∈ r0, RB 0 r := by
    have hb : RB 0 (lanesR lanes) := by
      rw [lanesR_join]
      refine RB.of (by simp) (by show 2 ≤ 17; decide) fun a ha => ?_
      rcases (List.mem_cons.1 ha) with rfl | ha
      · exact ⟨by decide, by decide⟩
      · rw [List.mem_singleton.mp ha]; exact txt_pc (by lia) 0
    cases b0
    · exact ⟨[], rfl, by decide, fun r hr => by cases hr⟩
    · exact ⟨[lanesR lanes], rfl, Nat.le_refl _, fun r hr => by rw [List.mem_singleton.mp hr]; exact hb⟩
  rw [e0]
  have so := same_new ho (.lst (r0.map V.str))
  have ho4 := atNew ho (.lst (r0.map V.str))
  have no := st3.ne ho
  have st4 := st3.keep so
  have B4 := (B2.trans B3).trans (But.of so)
  generalize L2.upd H3 o (.lst (r0.map V.str)) = H4 at so ho4 st4 B4 ⊢
  refine seq_lateR (fun Dc hDc rDc => ?_)
  refine ⟨_, rfl, _, rfl, l, 7, _, rfl, by decide, by decide, st4, by lia, fun v3 H5 v30 v31 st5 B5 => ⟨_, rfl, by lia, by lia, fun lq hlq => ?_⟩⟩
  obtain ⟨many, rfl⟩ := Int.eq_ofNat_of_zero_le v30
  have ho5 := B5 _ _ ho4 no.symm
  have B5' := B4.trans B5
  have nlq := st5.ne hlq
  have flq := B5'.frs hlq
  have noq : o ≠ lq := ne_of_none ho5 hlq
  refine lc_range (lo := 0) (n := ((many : Nat) : Int).toNat) (fun j acc σ H6 => (∃ v, σ = [v, some (.ref l), some (.int (lanes : Nat))]) ∧ H6 lq = some (.lst acc) ∧ H6 o = some (.lst (r0.map V.str)) ∧ StAt H6 l (n + 3 + 12 * j) ∧ But l H H6 ∧ ∃ rs : List Str, acc = rs.map V.str ∧ rs.length = j ∧ ∀ r ∈ rs, RB 0 r) ⟨⟨_, rfl⟩, upd_same, by rw [upd_ne noq]; exact ho5, st5.upd nlq, B5'.new hlq, [], rfl, rfl, fun x hx => by cases hx⟩ (fun j acc σ H4 q => q.2.1) ?_ ?_
  · rintro j acc σ H6 hj ⟨⟨v, rfl⟩, h6, o6, st6, B6, rs, rfl, rl, rb⟩
    have j7 : j < 7 := by lia
    refine ⟨_, rfl, _, rfl, l, _, lanes, rfl, st6, by lia, l1, l4, fun z H7 hz st7 B7 => ?_⟩
    have h7 := B7 _ _ h6 nlq.symm
    refine ⟨h7, by rw [List.length_map, rl, sizeLine_eq]; lia, nx hj ⟨⟨_, rfl⟩, upd_same, by rw [upd_ne noq]; exact B7 _ _ o6 no.symm, (st7.upd nlq).mono (by lia), (B6.trans B7).upd flq, rs ++ [z], ?_, by rw [List.length_append, rl]; rfl, fun y hy => ?_⟩⟩
    · rw [List.map_append]; rfl
    · rcases List.mem_append.mp hy with q | q
      · exact rb y q
      · rw [List.mem_singleton.mp q]; exact hz
  rintro acc σ H6 ⟨⟨v, rfl⟩, h6, o6, st6, B6, rs, rfl, rl, rb⟩
  have rl7 : rs.length ≤ 6 := by lia
  have st6' : StAt H6 l (n + 90) := st6.mono (by lia)
  clear st6
  refine ⟨o, lq, _, _, rfl, rfl, o6, h6, by rw [List.length_map, List.length_map, sizeLine_eq]; lia, fun lr hlr => hDc _ _ ?_⟩
  clear hDc rDc
  rw [← List.map_append]
  have rall : ∀ r ∈ r0 ++ rs, RB 0 r := fun r hr => by
    rcases List.mem_append.mp hr with q | q
    · exact r0b r q
    · exact rb r q
  have rlen : (r0 ++ rs).length ≤ 7 := by rw [List.length_append]; lia
  generalize r0 ++ rs = rr at rall rlen hlr ⊢
  have sr := same_new hlr (.lst (rr.map V.str))
  have hr7 := atNew hlr (.lst (rr.map V.str))
  have nlr := st6'.ne hlr
  have st7 := st6'.keep sr
  have B7 := B6.trans (But.of sr)
  have flr := B6.frs hlr
  generalize L2.upd H6 lr (.lst (rr.map V.str)) = H7 at sr hr7 st7 B7 ⊢
  refine seq_via (fun σ H8 => ∃ rows : List Str, σ = [some (.ref l), some (.int (lanes : Nat)), some (.ref lr)] ∧ H8 lr = some (.lst (rows.map V.str)) ∧ rows.length ≤ 8 ∧ (∀ r ∈ rows, RB 0 r) ∧ StAt H8 l (n + 100) ∧ But l H H8) ?_ ?_
  · rintro σ H8 ⟨rows, rfl, h8, r8, rb8, st8, B8⟩
    refine ⟨rfl, _, rfl, _, lr, rows, rfl, rfl, SqL.of h8, joinS (B := 1200) (fun y hy => (rb8 y hy).len (by decide)) ?_, ?_⟩
    · show rows.length * 1200 + rows.length * 1 ≤ _
      lia
    · obtain ⟨rs', rb', e, l9⟩ := rows_some2 (b := 0) (by lia) rb8
      rw [s_nl, e]
      exact k rs' H8 rb' (by lia) st8 B8
  · intro D' hD
    refine ⟨_, rfl, l, 3, _, rfl, by decide, by decide, st7, by lia, fun v4 H8 v40 v41 st8 B8 => ⟨_, _, rfl, rfl, _, rfl, ?_⟩⟩
    dsimp only
    have h8 := B8 _ _ hr7 nlr.symm
    have B8' := B7.trans B8
    by_cases z : 0 < v4
    · rw [decide_eq_true z]
      refine iteT ⟨_, rfl, .inl ⟨rfl, _, SqL.of h8⟩, rfl, by show 1 ≤ sizeLine; decide, fun q hq => ?_⟩
      have sq := same_new hq (.lst [.str "ends"])
      have hq9 := atNew hq (.lst [.str "ends"])
      have h9 := sq _ _ h8
      have st9 := st8.keep sq
      have B9 := B8'.trans (But.of sq)
      have nrq : lr ≠ q := ne_of_none h8 hq
      generalize L2.upd H8 q (.lst [.str "ends"]) = H9 at sq hq9 h9 st9 B9 ⊢
      have rsz : Builtin.Range.small ((lanes : Nat) - 1) (-1) (-1) = true ∧ Builtin.Range.rangeSize ((lanes : Nat) - 1) (-1) (-1) = ((lanes : Nat) : Int) := by
        have : lanes = 1 ∨ lanes = 2 ∨ lanes = 3 ∨ lanes = 4 := by lia
        rcases this with rfl | rfl | rfl | rfl <;> decide
      refine ⟨_, rfl, _, _, rfl, rfl, _, rfl, _, rfl, _, _, _, lanes, rfl, by decide, by decide, rsz.1, rsz.2, fun lq2 hlq2 => ?_⟩
      have n2q : q ≠ lq2 := ne_of_none hq9 hlq2
      have n2r : lr ≠ lq2 := ne_of_none h9 hlq2
      have s2 := same_new hlq2 (.lst [])
      refine lc_rangeS (lo := ((lanes : Nat) : Int) - 1) (c := -1) (n := lanes) (fun j acc σ H10 => (∃ v, σ = [v]) ∧ H10 lq2 = some (.lst acc) ∧ Same H9 H10 ∧ ∃ es : List Nat, acc = (es.map fun (e : Nat) => txt (e : Int)).map V.str ∧ es.length = j ∧ ∀ x ∈ es, x ≤ 1000) ⟨⟨_, rfl⟩, upd_same, s2, [], rfl, rfl, fun x hx => by cases hx⟩ (fun j acc σ H4 q => q.2.1) ?_ ?_
      · rintro j acc σ H10 hj ⟨⟨v, rfl⟩, h10, s10, es, rfl, el', small⟩
        obtain ⟨x, ex, x9⟩ : ∃ x : Nat, ((lanes : Nat) : Int) - 1 + (j : Nat) * (-1) = (x : Nat) ∧ x ≤ 1000 := ⟨lanes - 1 - j, by lia, by lia⟩
        rw [ex]
        refine ⟨_, rfl, _, rfl, fits x9, h10, by rw [List.length_map, List.length_map, el', sizeLine_eq]; lia, nx hj ⟨⟨_, rfl⟩, upd_same, fun b o e => ?_, es ++ [x], ?_, by rw [List.length_append, el']; rfl, fun y hy => ?_⟩⟩
        · rw [upd_ne (ne_of_none e hlq2)]; exact s10 b o e
        · rw [List.map_append, List.map_append]; rfl
        · rcases List.mem_append.mp hy with q | q
          · exact small y q
          · rw [List.mem_singleton.mp q]; exact x9
      rintro acc σ H10 ⟨⟨v, rfl⟩, h10, s10, es, rfl, el', small⟩
      have hq10 := s10 _ _ hq9
      have hr10 := s10 _ _ h9
      refine ⟨q, lq2, _, _, rfl, rfl, hq10, h10, by rw [List.length_map, List.length_map, sizeLine_eq]; show 1 + _ ≤ _; lia, fun o2 ho2 => ?_⟩
      have e11 : [V.str "ends"] ++ (es.map fun (e : Nat) => txt (e : Int)).map V.str = (Str.ofString "ends" :: es.map fun (e : Nat) => txt (e : Int)).map V.str := rfl
      rw [e11]
      have s11 := same_new ho2 (.lst ((Str.ofString "ends" :: es.map fun (e : Nat) => txt (e : Int)).map V.str))
      have pce : ∀ a ∈ (Str.ofString "ends" :: es.map fun (e : Nat) => txt (e : Int)), PcB 0 a := fun a ha => by
        rcases (List.mem_cons.1 ha) with rfl | ha
        · exact ⟨by decide, by decide⟩
        · exact small_pc small a ha
      have pel : (Str.ofString "ends" :: es.map fun (e : Nat) => txt (e : Int)).length ≤ 5 := by rw [List.length_cons, List.length_map]; lia
      have pen : (Str.ofString "ends" :: es.map fun (e : Nat) => txt (e : Int)) ≠ [] := by simp
      generalize (Str.ofString "ends" :: es.map fun (e : Nat) => txt (e : Int)) = ps at pce pel pen s11 ⊢
      refine ⟨_, o2, ps, rfl, rfl, SqL.of upd_same, pc_joins pce (by lia), ?_⟩
      have hr11 := s11 _ _ hr10
      have st11 := (st9.keep s10).keep s11
      have B11 := (B9.trans (But.of s10)).trans (But.of s11)
      refine ⟨lr, _, _, rfl, rfl, hr11, by rw [List.length_map, sizeLine_eq]; lia, ?_⟩
      refine hD _ _ ⟨rr ++ [Txt.join (Str.ofString " ") ps], rfl, by rw [upd_same, List.map_append]; rfl, by rw [List.length_append]; show _ + 1 ≤ 8; lia, fun r hr => ?_, (st11.upd nlr).mono (by lia), B11.upd flr⟩
      rcases List.mem_append.mp hr with q | q
      · exact rall r q
      · rw [List.mem_singleton.mp q, s_sp]; exact RB.of pen (by lia) pce
    · rw [decide_eq_false z]
      exact iteF (hD _ _ ⟨rr, rfl, h8, by lia, rall, st8.mono (by lia), B8'⟩)
end
end K77
end
section
set_option maxHeartbeats 4000001
namespace K77
open PySem L2 Own Bn
abbrev sHand : Stmt := top 33
theorem cut_ints (ns : List Int) (lo hi : Option Int) (h : ns.length ≤ 63) : ∃ ms : List Int, cutV (ns.map V.int) lo hi = ms.map V.int ∧ ms.length ≤ 63 := by
  refine ⟨(ns.drop (HT.sIx (ns.map V.int).length 0 lo)).take (HT.sIx (ns.map V.int).length (ns.map V.int).length hi - HT.sIx (ns.map V.int).length 0 lo), ?_, ?_⟩
  · unfold cutV; rw [List.map_take, List.map_drop]
  · rw [List.length_take, List.length_drop]; lia
theorem int_at {ms : List Int} {i : Nat} {x : V} (h : (ms.map V.int)[i]? = some x) : i < ms.length ∧ ∃ z, x = V.int z := by
  rw [List.getElem?_map] at h
  cases e : ms[i]? with
  | none => rw [e] at h; cases h
  | some z => rw [e] at h; exact ⟨(List.getElem?_eq_some_iff.mp e).1, z, (Option.some.inj h).symm⟩
def spHand (K : PySem.W.Frag) : Sp := fun vs H Q _ => ∃ (a : Addr) (ns : List Int), vs = [.ref a] ∧ SqL K H a (ns.map V.int) ∧ ns.length ≤ 63 ∧
  ∀ l H', H l = none → Same H H' → StAt H' l 0 → Q (.ref l) H'
theorem far_le (i : Nat) (f : Int) (h0 : 0 < f) (h : f ≤ 2 ^ (200 * i)) : f * 10 ^ 60 ≤ 2 ^ (200 * (i + 1)) := by
  have e : (2 : Int) ^ (200 * (i + 1)) = 2 ^ (200 * i) * 2 ^ 200 := by rw [Nat.mul_add, Int.pow_add]
  rw [e]
  have t : (10 : Int) ^ 60 ≤ 2 ^ 200 := by decide
  exact Int.le_trans (Int.mul_le_mul_of_nonneg_left t (by lia)) (Int.mul_le_mul_of_nonneg_right h (by decide))
theorem far_small {i : Nat} {f : Int} (hi : i ≤ 63) (h0 : 0 < f) (h : f ≤ 2 ^ (200 * i)) : f.natAbs < 2 ^ 20000 := by
  have e : (2 : Int) ^ (200 * i) = ((2 ^ (200 * i) : Nat) : Int) := by rw [Int.natCast_pow]; rfl
  have l : (2 : Nat) ^ (200 * i) < 2 ^ 20000 := Nat.pow_lt_pow_right (by decide) (by lia)
  rw [e] at h
  generalize (2 : Nat) ^ 20000 = N at *
  lia
theorem rest_small (x : Int) : (x % 10 ^ 60).natAbs < 2 ^ 20000 := by
  have a := Int.emod_nonneg x (show (10 : Int) ^ 60 ≠ 0 by decide)
  have b := Int.emod_lt_of_pos x (show (0 : Int) < 10 ^ 60 by decide)
  have c : (10 : Nat) ^ 60 < 2 ^ 200 := by decide
  have d : (2 : Nat) ^ 200 < 2 ^ 20000 := Nat.pow_lt_pow_right (by decide) (by decide)
  have e : ((10 : Int) ^ 60) = ((10 ^ 60 : Nat) : Int) := by decide
  rw [e] at a b ⊢
  generalize (2 : Nat) ^ 20000 = N at *
  generalize (2 : Nat) ^ 200 = M at *
  lia
section
variable {P : Program} {w : World} {K : PySem.W.Frag} {mg : Str → Option Value} {base : Heap}
theorem scH : FnScope ["_law_script", "_law_state", "_law_far", "_law_cell", "_law_k", "_law_one"] ["_law_script"] (defScope sHand) := ⟨rfl, rfl, rfl, by decide +kernel, rfl, by decide +kernel, by decide +kernel⟩
theorem ok_hand {f : Addr} {fd : FuncData} (F : Fun K "_law_hand" "_law_hand" sHand f fd) (G : Mgs mg) : FnOk P w K mg base CX0 1 f fd ["_law_script"] (spHand K) := by
  refine F.ok scH (fun vs H Q E h => ?_) (fun cdv A outer s H vs Q E hr h => ?_)
  · obtain ⟨a, ns, rfl, _⟩ := h
    rfl
  · obtain ⟨a, ns, rfl, hS, h63, k⟩ := h
    obtain ⟨t', hR, hq⟩ : ∃ t', PSs (cxOf CX0 P w K mg base ["_law_script", "_law_state", "_law_far", "_law_cell", "_law_k", "_law_one"] "_law_hand" (defScope sHand) f cdv A outer s H E).nox ((defBody sHand).drop 2) t' ∧
        ∀ (l : Addr) (v2 v3 v4 v5 : Option V) (H' : Hp) (x : Int), H l = none → Same H H' → 0 ≤ x → H' l = some (.lst [.int x, .int 0, .int 0]) → t' { nx := fun _ H' => Q .non H', rt := Q } [some (.ref a), some (.ref l), v2, v3, v4, v5] H' := by
      refine ⟨_, pss_cons (ps_for PassesOwn.never rfl (pi_enum true rfl G.enum (pa_cons (pe_slice sl_list (pv 0) po_none (po_some pe_int)) pa_nil)) (pg_tup rfl (pgs_cons (pg_name (i := 4) scH.nd rfl (Or.inl rfl)) (pgs_cons (pg_name (i := 3) scH.nd rfl (Or.inl rfl)) pgs_nil)))
          (pss_cons (ps_set (i := 5) scH.nd rfl (Or.inl rfl) (pe_op op_add (pe_op op_add (pe_op op_mod (pv 3) pe_int) (pe_op op_mul pe_int (pv 4))) pe_int))
          (pss_one (ps_asg (pe_op op_mod (pe_op op_add (pe_op op_mul (pe_ix ix_list (pv 1) pe_int (fun _ _ => rfl)) pe_int) (pv 5)) pe_int) (pg_sub (pv 1) pe_int set_list)))))
        (pss_one (ps_ret (pv 1))), ?_⟩
      intro l v2 v3 v4 v5 H1 x hl s1 x0 h1
      obtain ⟨ms, em, lm⟩ := cut_ints ns none (some 63) h63
      refine ⟨_, rfl, 63, rfl, a, _, rfl, s1.seq hS, fun p hp => ?_⟩
      have npl : p ≠ l := fun e => by rw [e, h1] at hp; cases hp
      refine ⟨p, ms.map V.int, rfl, SqL.of (by rw [← em]; exact upd_same), for_enum (K := K) (b := true) (a := p) (xs := ms.map V.int) (fun i σ H2 => (∃ w2 w3 w4 w5, σ = [some (.ref a), some (.ref l), w2, w3, w4, w5]) ∧ Same H H2 ∧ H2 p = some (.lst (ms.map V.int)) ∧ ∃ y : Int, 0 ≤ y ∧ y < 2305843009213693951 ∧ H2 l = some (.lst [.int x, .int y, .int 0]))
        ⟨⟨_, _, _, _, rfl⟩, s1.trans (same_new hp _), by rw [← em]; exact upd_same, 0, by decide, by decide, by rw [upd_ne npl.symm]; exact h1⟩ (fun i σ H2 _ q => SqL.of q.2.2.1) ?_ ?_⟩
      · rintro i v σ H2 T hi hT ⟨⟨w2, w3, w4, w5, rfl⟩, s2, h2, y, y0, y1, h3⟩
        obtain ⟨il, z, rfl⟩ := int_at hi
        have nTl : l ≠ T := ne_of_none h3 hT
        have nTp : p ≠ T := ne_of_none h2 hT
        refine ⟨T, _, rfl, SqT.of upd_same, rfl, _, _, rfl, _, _, rfl, rfl, ?_⟩
        refine ⟨_, rfl, _, _, rfl, rfl, (by show (0 : Int) < 2305843009213693951; decide), _, rfl, _, _, rfl, rfl, .inl ⟨by decide, by decide⟩, _, _, rfl, rfl, _, _, rfl, rfl, ?_⟩
        have h3' : (upd H2 T (.tup [.int i, .int z])) l = some (.lst [.int x, .int y, .int 0]) := by rw [upd_ne nTl]; exact h3
        refine ⟨_, rfl, l, _, _, _, rfl, rfl, SqL.of h3', rfl, _, _, rfl, rfl, .inr ⟨by decide, by decide⟩, _, rfl, _, _, rfl, rfl, _, _, rfl, rfl, (by show (0 : Int) < 2305843009213693951; decide), _, rfl, l, _, _, 1, rfl, rfl, h3', rfl, ?_⟩
        refine ⟨⟨_, _, _, _, rfl⟩, fun b o e => ?_, ?_, _, Int.emod_nonneg _ (by decide), Int.emod_lt_of_pos _ (by decide), upd_same⟩
        · rw [upd_ne (ne_of_none e hl), upd_ne (ne_of_none (s2 b o e) hT)]; exact s2 b o e
        · rw [upd_ne npl, upd_ne nTp]; exact h2
      · rintro σ H2 ⟨⟨w2, w3, w4, w5, rfl⟩, s2, h2, y, y0, y1, h3⟩
        exact ⟨_, rfl, k l H2 hl s2 ⟨x, y, 0, h3, x0, y0, by lia, by decide, by decide⟩⟩
    refine ⟨_, pss_cons (ps_set (i := 1) scH.nd rfl (Or.inl rfl) (pe_lst (pa_cons pe_int (pa_cons pe_int (pa_cons pe_int pa_nil)))))
      (pss_cons (ps_if (pw_and (pt_cmpR op_gt (pe_callB call_len_seq (by rfl) G.len PySem.boot_len (pa_cons (pv 0) pa_nil)) pe_int (nomark _)) (pw_and1 (pt_cmpR op_ge (pe_ix ix_list (pv 0) pe_int (fun _ _ => rfl)) (pe_op op_pow pe_int pe_int) (nomark _)))).pt
        (pss_cons (ps_set (i := 2) scH.nd rfl (Or.inl rfl) pe_int)
        (pss_one (ps_for PassesOwn.never rfl (pi_list (pe_slice sl_list (pv 0) po_none (po_some pe_int))) (pg_name (i := 3) scH.nd rfl (Or.inl rfl))
          (pss_cons (ps_asg (pe_op op_add (pe_ix ix_list (pv 1) pe_int (fun _ _ => rfl)) (pe_op op_mulW (pe_op op_mod (pe_callB call_abs (by rfl) G.abs (by rfl) (pa_cons (pv 3) pa_nil)) (pe_op op_pow pe_int pe_int)) (pv 2))) (pg_sub (pv 1) pe_int set_list))
          (pss_one (ps_set (i := 2) scH.nd rfl (Or.inl rfl) (pe_op op_mulW (pv 2) (pe_op op_pow pe_int pe_int))))))))
        pss_nil) hR), ?_⟩
    refine ⟨(by show 3 ≤ sizeLine; decide), fun l hl => ?_⟩
    have s0 : Same H (upd H l (.lst [.int 0, .int 0, .int 0])) := same_new hl _
    refine ⟨_, rfl, a, _, rfl, .inl (s0.seq hS), _, _, rfl, rfl, _, rfl, ?_⟩
    refine ite2 (fun q => ?_) (fun q => ?_)
    · have hpos : 0 < ns.length := by
        have := of_decide_eq_true q
        rw [List.length_map] at this
        lia
      refine ⟨_, rfl, a, _, _, _, rfl, rfl, s0.seq hS, (atI_nat (j := 0) (by rw [List.getElem?_map, List.getElem?_eq_getElem hpos]; rfl)), _, _, rfl, rfl, ⟨by decide, by decide, by decide⟩, _, _, rfl, rfl, _, rfl, ?_⟩
      refine ite2 (fun q2 => ?_) (fun q2 => ?_)
      · obtain ⟨ms, em, lm⟩ := cut_ints ns none (some 63) h63
        refine ⟨_, rfl, 63, rfl, a, _, rfl, s0.seq hS, fun p hp => ?_⟩
        have npl : p ≠ l := fun e => by rw [e, upd_same] at hp; cases hp
        refine ⟨p, rfl, ⟨_, SqL.of upd_same⟩, for_list (K := K) (a := p) (xs := ms.map V.int) (fun i σ H2 => (∃ (far : Int) (w3 w4 w5 : Option V), σ = [some (.ref a), some (.ref l), some (.int far), w3, w4, w5] ∧ 0 < far ∧ far ≤ 2 ^ (200 * i)) ∧ Same H H2 ∧ H2 p = some (.lst (ms.map V.int)) ∧ ∃ x : Int, 0 ≤ x ∧ H2 l = some (.lst [.int x, .int 0, .int 0]))
          ⟨⟨1, _, _, _, rfl, by decide, by decide⟩, s0.trans (same_new hp _), by rw [← em]; exact upd_same, 0, by decide, by rw [upd_ne npl.symm]; exact upd_same⟩ (fun i σ H2 _ q => SqL.of q.2.2.1) ?_ ?_⟩
        · rintro i v σ H2 hi ⟨⟨far, w3, w4, w5, rfl, f0, f1⟩, s2, h2, x, x0, h3⟩
          obtain ⟨il, z, rfl⟩ := int_at hi
          have fs := far_small (by lia) f0 f1
          refine ⟨_, rfl, l, _, _, _, rfl, rfl, SqL.of h3, rfl, _, rfl, _, rfl, _, _, rfl, rfl, ⟨by decide, by decide, by decide⟩, _, _, rfl, rfl, (by show (0 : Int) < 10 ^ 60; decide), _, rfl, _, _, rfl, rfl, ⟨?_, fs⟩, _, _, rfl, rfl, _, rfl, l, _, _, 0, rfl, rfl, h3, rfl, ?_⟩
          · exact rest_small _
          refine ⟨_, rfl, _, _, rfl, rfl, ⟨by decide, by decide, by decide⟩, _, _, rfl, rfl, ⟨fs, by decide⟩, ?_⟩
          refine ⟨⟨_, _, _, _, rfl, ?_, far_le i far f0 f1⟩, fun b o e => ?_, ?_, _, ?_, upd_same⟩
          · exact Int.mul_pos f0 (by decide)
          · rw [upd_ne (ne_of_none e hl)]; exact s2 b o e
          · rw [upd_ne npl]; exact h2
          · exact Int.add_nonneg x0 (Int.mul_nonneg (Int.emod_nonneg _ (by decide)) (by lia))
        · rintro σ H2 ⟨⟨far, w3, w4, w5, rfl, _, _⟩, s2, h2, x, x0, h3⟩
          exact hq l _ _ _ _ H2 x hl s2 x0 h3
      · exact hq l _ _ _ _ _ 0 hl s0 (by decide) upd_same
    · exact hq l _ _ _ _ _ 0 hl s0 (by decide) upd_same
end
end K77
end
section
set_option maxHeartbeats 4000001
namespace K77
open PySem L2 Own Bn
abbrev sAlike : Stmt := top 39
def numT : V → Bool
  | .int _ => true
  | .str _ => true
  | _ => false
def Eq3 (H : Hp) : Nat → V → V → Prop
  | 0, x, y => x = y ∧ numT x = true
  | n + 1, x, y => (x = y ∧ numT x = true) ∨ ∃ a b xs ys, x = .ref a ∧ y = .ref b ∧ H a = some (.tup xs) ∧ H b = some (.tup ys) ∧ xs.length = ys.length ∧ xs.length ≤ 1000 ∧ ∀ (i : Nat) (u v : V), xs[i]? = some u → ys[i]? = some v → Eq3 H n u v
theorem Eq3.same {H H' : Hp} (s : Same H H') : ∀ {n : Nat} {x y : V}, Eq3 H n x y → Eq3 H' n x y
  | 0, _, _, h => h
  | n + 1, _, _, h => by
    rcases h with h | ⟨a, b, xs, ys, e1, e2, h1, h2, h3, h4, h5⟩
    · exact .inl h
    · exact .inr ⟨a, b, xs, ys, e1, e2, s _ _ h1, s _ _ h2, h3, h4, fun i u v p q => Eq3.same s (h5 i u v p q)⟩
def spAlike (n : Nat) : Sp := fun vs H Q _ => ∃ x y, vs = [x, y] ∧ Eq3 H n x y ∧ ∀ H', Same H H' → Q (.bl true) H'
section
variable {P : Program} {w : World} {K : PySem.W.Frag} {mg : Str → Option Value} {base : Heap}
theorem scAk : FnScope ["_law_found_here", "_law_due"] ["_law_found_here", "_law_due"] (defScope sAlike) := ⟨rfl, rfl, rfl, by decide +kernel, rfl, by decide +kernel, by decide +kernel⟩
theorem ok_alike1 {f : Addr} {fd : FuncData} (F : Fun K "_law_alike" "_law_alike" sAlike f fd) (G : Mgs mg) (bS : Binds K fd ["_law_found_here", "_law_due"] []) (mS : mg "_law_alike" = some (.ref f)) (n : Nat)
    (GS : FnOk P w K mg base CX0 n f fd ["_law_found_here", "_law_due"] (fun vs H Q E => ∃ m, n = m + 1 ∧ spAlike m vs H Q E)) : FnOk P w K mg base CX0 (n + 1) f fd ["_law_found_here", "_law_due"] (spAlike n) := by
    have UT : Use P w K mg base "_law_alike" ["_law_found_here", "_law_due"] n (fun vs H Q E => ∃ m, n = m + 1 ∧ spAlike m vs H Q E) f fd := ⟨GS, bS, F.kp, mS⟩
    refine F.ok scAk (fun vs H Q E h => ?_) (fun cdv A outer s H vs Q E hr h => ?_)
    · obtain ⟨x, y, rfl, _⟩ := h
      rfl
    obtain ⟨x, y, rfl, he, k⟩ := h
    refine ⟨_, (@pss_cons _ _ _ _ _ (@ps_if _ _ _ _ _ _ _ _ (@pt_val _ _ _ (@pe_callB _ _ _ _ _ _ _ _ _ call_isi (by rfl) G.isi (by rfl) (@pa_cons _ _ _ _ _ (@pv _ 1 _ _ (by rfl) (by first | exact Or.inl rfl | exact Or.inr (Or.inl rfl) | exact Or.inr (Or.inr rfl)) (by decide) (by decide)) (@pa_cons _ _ _ _ _ (@pe_bltn _ _ (.ty "tuple") (.type "tuple") _ (by rfl) G.tuple (by rfl) rfl (by decide) (by decide)) pa_nil (by rfl)) (by rfl)) (by decide) (by decide) (by rfl) (by rfl)) (by intro _; rfl)) (@pss_cons _ _ _ _ _ (@ps_if _ _ _ _ _ _ _ _ (@pw_or _ _ _ _ _ _ _ (@pt_not _ _ _ _ (@pt_val _ _ _ (@pe_callB _ _ _ _ _ _ _ _ _ call_isi (by rfl) G.isi (by rfl) (@pa_cons _ _ _ _ _ (@pv _ 0 _ _ (by rfl) (by first | exact Or.inl rfl | exact Or.inr (Or.inl rfl) | exact Or.inr (Or.inr rfl)) (by decide) (by decide)) (@pa_cons _ _ _ _ _ (@pe_bltn _ _ (.ty "tuple") (.type "tuple") _ (by rfl) G.tuple (by rfl) rfl (by decide) (by decide)) pa_nil (by rfl)) (by rfl)) (by decide) (by decide) (by rfl) (by rfl)) (by intro _; rfl))) (@pw_or1 _ _ _ _ (@pt_cmpR _ _ _ _ _ _ _ _ op_ne (@pe_callB _ _ _ _ _ _ _ _ _ call_len_seq (by rfl) G.len PySem.boot_len (@pa_cons _ _ _ _ _ (@pv _ 0 _ _ (by rfl) (by first | exact Or.inl rfl | exact Or.inr (Or.inl rfl) | exact Or.inr (Or.inr rfl)) (by decide) (by decide)) pa_nil (by rfl)) (by decide) (by decide) (by rfl) (by rfl)) (@pe_callB _ _ _ _ _ _ _ _ _ call_len_seq (by rfl) G.len PySem.boot_len (@pa_cons _ _ _ _ _ (@pv _ 1 _ _ (by rfl) (by first | exact Or.inl rfl | exact Or.inr (Or.inl rfl) | exact Or.inr (Or.inr rfl)) (by decide) (by decide)) pa_nil (by rfl)) (by decide) (by decide) (by rfl) (by rfl)) (nomark _)))).pt (@pss_one _ _ _ (@ps_ret _ _ _ _ pe_bl)) pss_nil) (@pss_one _ _ _ (@ps_ret _ _ _ _ (@pe_callB _ _ _ _ _ _ _ _ _ (call_allB rfl true) (by rfl) G.all (by rfl) (@pa_cons _ _ _ _ _ (@pe_lc _ _ _ _ none _ _ _ (gTup K 2 (gCons (gName 0) (gCons (gName 1) gNil))) _ _ ["_law_one", "_law_other"] [none, none] rfl (@pi_zip _ _ _ _ _ _ _ _ _ false false rfl G.zip (@pa_cons _ _ _ _ _ (@pv _ 0 _ _ (by rfl) (by first | exact Or.inl rfl | exact Or.inr (Or.inl rfl) | exact Or.inr (Or.inr rfl)) (by decide) (by decide)) (@pa_cons _ _ _ _ _ (@pv _ 1 _ _ (by rfl) (by first | exact Or.inl rfl | exact Or.inr (Or.inl rfl) | exact Or.inr (Or.inr rfl)) (by decide) (by decide)) pa_nil (by rfl)) (by rfl)) (by rfl) (by rfl)) (CapOk.of (by kernel_rfl)) (fun _ _ _ _ _ => (@pg_tup _ _ _ _ _ _ rfl (@pgs_cons _ _ _ _ _ (@pg_name _ _ 0 _ (show (["_law_one", "_law_other"] : List Str).Nodup from by decide +kernel) rfl (Or.inl rfl) (Or.inr rfl)) (@pgs_cons _ _ _ _ _ (@pg_name _ _ 1 _ (show (["_law_one", "_law_other"] : List Str).Nodup from by decide +kernel) rfl (Or.inl rfl) (Or.inr rfl)) pgs_nil (by rfl)) (by rfl)) (by rfl) (by rfl))) (fun _ _ _ _ _ => pt_none) (fun _ _ _ _ _ => (@pe_call _ _ _ _ _ _ _ _ _ _ _ _ _ _ _ _ UT.ok hr (by rfl) UT.m UT.kp UT.b .nil pass0 (@pa_cons _ _ _ _ _ (@pv _ 0 _ _ (by rfl) (by first | exact Or.inl rfl | exact Or.inr (Or.inl rfl) | exact Or.inr (Or.inr rfl)) (by decide) (by decide)) (@pa_cons _ _ _ _ _ (@pv _ 1 _ _ (by rfl) (by first | exact Or.inl rfl | exact Or.inr (Or.inl rfl) | exact Or.inr (Or.inr rfl)) (by decide) (by decide)) pa_nil (by rfl)) (by rfl)) (by decide) (by rfl) (by rfl))) (by intro _; rfl)) pa_nil (by rfl)) (by decide) (by decide) (by rfl) (by rfl))))) pss_nil) (@pss_cons _ _ _ _ _ (@ps_if _ _ _ _ _ _ _ _ (@pt_val _ _ _ (@pe_callB _ _ _ _ _ _ _ _ _ call_isi (by rfl) G.isi (by rfl) (@pa_cons _ _ _ _ _ (@pv _ 1 _ _ (by rfl) (by first | exact Or.inl rfl | exact Or.inr (Or.inl rfl) | exact Or.inr (Or.inr rfl)) (by decide) (by decide)) (@pa_cons _ _ _ _ _ (@pe_bltn _ _ (.ty "str") (.type "str") _ (by rfl) G.str (by rfl) rfl (by decide) (by decide)) pa_nil (by rfl)) (by rfl)) (by decide) (by decide) (by rfl) (by rfl)) (by intro _; rfl)) (@pss_one _ _ _ (@ps_ret _ _ _ _ (@pe_and _ _ _ _ _ _ _ (@pe_callB _ _ _ _ _ _ _ _ _ call_isi (by rfl) G.isi (by rfl) (@pa_cons _ _ _ _ _ (@pv _ 0 _ _ (by rfl) (by first | exact Or.inl rfl | exact Or.inr (Or.inl rfl) | exact Or.inr (Or.inr rfl)) (by decide) (by decide)) (@pa_cons _ _ _ _ _ (@pe_bltn _ _ (.ty "str") (.type "str") _ (by rfl) G.str (by rfl) rfl (by decide) (by decide)) pa_nil (by rfl)) (by rfl)) (by decide) (by decide) (by rfl) (by rfl)) (@pe_one _ _ _ _ _ (@pe_cmpR _ _ _ _ _ _ _ _ op_eq (@pv _ 0 _ _ (by rfl) (by first | exact Or.inl rfl | exact Or.inr (Or.inl rfl) | exact Or.inr (Or.inr rfl)) (by decide) (by decide)) (@pv _ 1 _ _ (by rfl) (by first | exact Or.inl rfl | exact Or.inr (Or.inl rfl) | exact Or.inr (Or.inr rfl)) (by decide) (by decide)) (nomark _)))))) pss_nil) (@pss_one _ _ _ (@ps_ret _ _ _ _ (@pe_and _ _ _ _ _ _ _ (@pe_callB _ _ _ _ _ _ _ _ _ call_isi (by rfl) G.isi (by rfl) (@pa_cons _ _ _ _ _ (@pv _ 0 _ _ (by rfl) (by first | exact Or.inl rfl | exact Or.inr (Or.inl rfl) | exact Or.inr (Or.inr rfl)) (by decide) (by decide)) (@pa_cons _ _ _ _ _ (@pe_bltn _ _ (.ty "int") (.type "int") _ (by rfl) G.int (by rfl) rfl (by decide) (by decide)) pa_nil (by rfl)) (by rfl)) (by decide) (by decide) (by rfl) (by rfl)) (@pe_and _ _ _ _ _ _ _ (@pe_not _ _ _ _ (@pe_callB _ _ _ _ _ _ _ _ _ call_isi (by rfl) G.isi (by rfl) (@pa_cons _ _ _ _ _ (@pv _ 0 _ _ (by rfl) (by first | exact Or.inl rfl | exact Or.inr (Or.inl rfl) | exact Or.inr (Or.inr rfl)) (by decide) (by decide)) (@pa_cons _ _ _ _ _ (@pe_bltn _ _ (.ty "bool") (.type "bool") _ (by rfl) G.bool (by rfl) rfl (by decide) (by decide)) pa_nil (by rfl)) (by rfl)) (by decide) (by decide) (by rfl) (by rfl))) (@pe_one _ _ _ _ _ (@pe_cmpR _ _ _ _ _ _ _ _ op_eq (@pv _ 0 _ _ (by rfl) (by first | exact Or.inl rfl | exact Or.inr (Or.inl rfl) | exact Or.inr (Or.inr rfl)) (by decide) (by decide)) (@pv _ 1 _ _ (by rfl) (by first | exact Or.inl rfl | exact Or.inr (Or.inl rfl) | exact Or.inr (Or.inr rfl)) (by decide) (by decide)) (nomark _))))))))), ?_⟩
    have flat : (x = y ∧ numT x = true) ∨ ∃ m, n = m + 1 ∧ ∃ a b xs ys, x = .ref a ∧ y = .ref b ∧ H a = some (.tup xs) ∧ H b = some (.tup ys) ∧ xs.length = ys.length ∧ xs.length ≤ 1000 ∧ ∀ (i : Nat) (u v : V), xs[i]? = some u → ys[i]? = some v → Eq3 H m u v := by
      cases n with
      | zero => exact .inl he
      | succ m =>
        rcases he with he | he
        · exact .inl he
        · exact .inr ⟨m, rfl, he⟩
    rcases flat with ⟨rfl, fl⟩ | ⟨m, rfl, a, b, xs, ys, rfl, rfl, ha, hb, hl, h1000, hxy⟩
    · cases x with
      | int i =>
        refine ⟨_, rfl, _, "tuple", _, false, rfl, .int i, rfl, _, rfl, iteF ⟨_, rfl, _, "str", _, false, rfl, .int i, rfl, _, rfl, iteF ?_⟩⟩
        refine ⟨_, rfl, _, "int", _, true, rfl, .int i, rfl, _, rfl, iteT ⟨_, rfl, _, "bool", _, false, rfl, .int i, rfl, _, rfl, _, rfl, iteT ⟨_, rfl, _, rfl, rfl, ?_⟩⟩⟩
        rw [decide_eq_true rfl]; exact k H (Same.refl H)
      | str z =>
        refine ⟨_, rfl, _, "tuple", _, false, rfl, .str z, rfl, _, rfl, iteF ⟨_, rfl, _, "str", _, true, rfl, .str z, rfl, _, rfl, iteT ?_⟩⟩
        refine ⟨_, rfl, _, "str", _, true, rfl, .str z, rfl, _, rfl, iteT ⟨_, rfl, _, rfl, rfl, ?_⟩⟩
        rw [decide_eq_true rfl]; exact k H (Same.refl H)
      | non => cases fl
      | bl _ => cases fl
      | byt _ => cases fl
      | flt _ => cases fl
      | ref _ => cases fl
      | ty _ => cases fl
    · refine ⟨_, rfl, _, "tuple", _, true, rfl, .tup hb, rfl, _, rfl, iteT ?_⟩
      refine ⟨_, rfl, _, "tuple", _, true, rfl, .tup ha, rfl, _, rfl, iteF ?_⟩
      refine ⟨_, rfl, a, _, rfl, .inr (SqT.of ha), _, rfl, b, _, rfl, .inr (SqT.of hb), rfl, _, rfl, ?_⟩
      refine iteNS (by rw [hl]) ?_
      refine ⟨_, rfl, _, rfl, a, b, xs, ys, rfl, SqT.of ha, SqT.of hb, fun l hl0 => ?_⟩
      refine lc_zip (K := K) (b1 := false) (b2 := false) hl (fun i acc σ H' => acc = List.map V.bl (List.replicate i true) ∧ (∃ u v, σ = [u, v]) ∧ Same H H' ∧ H' l = some (.lst acc)) ⟨rfl, ⟨none, none, rfl⟩, same_new hl0 _, upd_same⟩
        (fun i acc σ H' p => ⟨p.2.2.2, SqT.of (p.2.2.1 _ _ ha), SqT.of (p.2.2.1 _ _ hb)⟩) ?_ ?_
      · rintro i acc σ H' u v T hu hv hT ⟨rfl, ⟨p, q, rfl⟩, hS, hL⟩
        have hi : i < xs.length := (List.getElem?_eq_some_iff.mp hu).1
        have sT : Same H (upd H' T (.tup [u, v])) := hS.trans (same_new hT _)
        refine ⟨T, _, rfl, SqT.of upd_same, rfl, _, _, rfl, _, _, rfl, rfl, ?_⟩
        refine ⟨_, rfl, _, rfl, m, rfl, u, v, rfl, (hxy i u v hu hv).same sT, fun H5 s5 => ⟨?_, ?_, nx hi ⟨?_, ⟨_, _, rfl⟩, fun b o e => ?_, upd_same⟩⟩⟩
        · exact s5 _ _ (by rw [upd_ne (ne_of_none hL hT)]; exact hL)
        · rw [List.length_map, List.length_replicate]; exact small1000 (by lia)
        · rw [List.replicate_succ', List.map_append]; rfl
        · rw [upd_ne (ne_of_none e hl0)]; exact s5 _ _ (sT b o e)
      · rintro acc σ H' ⟨rfl, _, hS, hL⟩
        refine ⟨l, List.replicate xs.length true, rfl, SqL.of hL, ?_⟩
        have e : (List.replicate xs.length true).all id = true := by
          rw [List.all_eq_true]; intro z hz; rw [List.eq_of_mem_replicate hz]; rfl
        rw [e]; exact k H' hS
theorem ok_alike {f : Addr} {fd : FuncData} (F : Fun K "_law_alike" "_law_alike" sAlike f fd) (G : Mgs mg) (bS : Binds K fd ["_law_found_here", "_law_due"] []) (mS : mg "_law_alike" = some (.ref f)) : ∀ n : Nat, FnOk P w K mg base CX0 (n + 1) f fd ["_law_found_here", "_law_due"] (spAlike n)
  | 0 => ok_alike1 F G bS mS 0 ⟨fun vs H Q E ⟨m, h, _⟩ => by lia, fun A outer s H args us vs Q E _ _ _ _ ⟨m, h, _⟩ => by lia⟩
  | m + 1 => ok_alike1 F G bS mS (m + 1) ((ok_alike F G bS mS m).imp fun vs H Q E ⟨m', h, q⟩ => by cases h; exact q)
end
end K77
end
section
set_option maxHeartbeats 4000001
namespace L2
open PySem PySem.Spec PyProof.Rows Own Builtin Builtin.Str
def strTo (z : Str) (k : Nat) : Str := ⟨(z.cps.toList.take k).toArray⟩
section
variable {X : Cx}
theorem sl_strTo : SlR X (fun x lo hi H Q => ∃ (z : Str) (k : Nat), x = .str z ∧ lo = none ∧ hi = some ((k : Nat) : Int) ∧ z.length ≤ sizeLine ∧ Q (.str (strTo z k)) H) := by
  intro pins s σ H x v vl vu lo hi sl Q I rx hs pl pu h
  obtain ⟨z, k, rfl, rfl, rfl, zl, q⟩ := h
  obtain ⟨t, rfl⟩ := rx
  cases pl
  cases pu with
  | int _ tk =>
  refine ⟨"str", _, F.slot_str_getitem.lookup, typeIs_str _ _ _, ?_⟩
  refine wpAny_getItem_str_slice (l := none) (u := some (((k : Nat) : Int), tk)) (st := none) hs rfl ?_
  have zs : z.cps.toList.length = z.length := by simp [Str.length]
  have ix : slicePicked z none (some (((k : Nat) : Int), tk)) none = strSliceIndices (some (((0 : Nat)) : Int)) (some ((min k z.length : Nat) : Int)) 1 z.length := by
    unfold slicePicked
    show strSliceIndices none (some ((k : Nat) : Int)) 1 z.length = _
    by_cases b : k ≤ z.length
    · rw [StrLaws.sliceIdx_none_lo, Nat.min_eq_left b]; rfl
    · rw [sliceIdx_hi_beyond z.length (by lia), StrLaws.sliceIdx_none_lo, Nat.min_eq_right (by lia)]; rfl
  have e : (slicePicked z none (some (((k : Nat) : Int), tk)) none).filterMap (z.cps[·]?) = z.cps.toList.take k := by
    rw [ix, StrLaws.sliced_plain z (Nat.zero_le _) (Nat.min_le_right _ _), List.drop_zero, Nat.sub_zero, ← zs]
    by_cases b : k ≤ z.cps.toList.length
    · rw [Nat.min_eq_left b]
    · have b' : z.cps.toList.length ≤ k := by lia
      rw [Nat.min_eq_right b', List.take_length, List.take_of_length_le b']
  have ln : (slicePicked z none (some (((k : Nat) : Int), tk)) none).length = min k z.length := by
    rw [ix, StrLaws.strSliceIndices_plain (Nat.zero_le _) (Nat.min_le_right _ _), List.length_map, List.length_range, Nat.sub_zero]
  unfold sliceMade
  by_cases w : z.length ≤ k
  · have eq : (slicePicked z none (some (((k : Nat) : Int), tk)) none).length = z.length := by rw [ln]; lia
    rw [if_pos (by rw [eq]; simp)]
    have ez : strTo z k = z := by
      unfold strTo
      rw [List.take_of_length_le (by lia)]
    rw [ez] at q
    exact ⟨.str z, H, I, ⟨_, rfl⟩, q⟩
  · have ne : (slicePicked z none (some (((k : Nat) : Int), tk)) none).length ≠ z.length := by rw [ln]; lia
    rw [if_neg (by simpa using ne), e]
    refine ⟨?_, .str _, H, I.tok _, ⟨_, rfl⟩, q⟩
    show (z.cps.toList.take k).toArray.size ≤ sizeLine
    rw [List.size_toArray, List.length_take]
    lia
end
end L2
end
section
set_option maxHeartbeats 4000001
namespace K77
open PySem L2 Own Bn
abbrev sNumL : Stmt := top 35
theorem one_sign (z : Str) (c : Nat) : decide (V.str (strTo z 1) = V.str ⟨#[c]⟩) = decide (z.cps.toList[0]? = some c) := by
  refine decide_eq_decide.mpr ⟨fun h => ?_, fun h => ?_⟩
  · have h1 : (strTo z 1).cps.toList = [c] := by rw [V.str.inj h]
    change z.cps.toList.take 1 = [c] at h1
    cases e : z.cps.toList with
    | nil => rw [e] at h1; cases h1
    | cons a r => rw [e] at h1; obtain rfl := (List.cons.inj h1).1; rfl
  · refine congrArg V.str (str_eq ?_)
    show z.cps.toList.take 1 = [c]
    cases e : z.cps.toList with
    | nil => rw [e] at h; cases h
    | cons a r => rw [e] at h; obtain rfl := Option.some.inj h; rfl
theorem first_sign {z : Str} (h : 1 ≤ z.length) : ∃ c, z.cps.toList[0]? = some c := by
  have : 0 < z.cps.toList.length := by rw [str_len]; lia
  exact ⟨_, List.getElem?_eq_getElem this⟩
theorem is_empty (z : Str) : decide (V.str z = V.str (Str.ofString "")) = decide (z.length = 0) := by
  refine decide_eq_decide.mpr ⟨fun h => by rw [V.str.inj h]; rfl, fun h => congrArg V.str (str_eq ?_)⟩
  have : z.cps.toList = [] := List.eq_nil_of_length_eq_zero (by rw [str_len]; exact h)
  rw [this]; rfl
theorem sign_eq (a c : Nat) : decide (V.str ⟨#[a]⟩ = V.str ⟨#[c]⟩) = decide (some a = some c) := decide_eq_decide.mpr ⟨fun h => by
    have := congrArg (fun z : Str => z.cps.toList) (V.str.inj h)
    exact congrArg some (List.cons.inj this).1, fun h => by rw [Option.some.inj h]⟩
section
variable {P : Program} {w : World} {K : PySem.W.Frag} {mg : Str → Option Value} {base : Heap}
theorem scLn : FnScope ["_law_word", "_law_size"] ["_law_word"] (defScope sNumL) := ⟨rfl, rfl, rfl, by decide +kernel, rfl, by decide +kernel, by decide +kernel⟩
theorem ok_numl {f : Addr} {fd : FuncData} (F : Fun K "_law_number_in" "_law_number_in" sNumL f fd) (G : Mgs mg) : FnOk P w K mg base CX0 1 f fd ["_law_word"] spNumZ := by
  refine F.ok scLn (fun vs H Q E h => ?_) (fun cdv A outer s H vs Q E hr h => ?_)
  · obtain ⟨z, rfl, _⟩ := h
    rfl
  obtain ⟨z, rfl, ⟨asc, zl⟩, k⟩ := h
  refine ⟨_, (@pss_cons _ _ _ _ _ (@ps_set _ _ 1 _ _ _ _ scLn.nd rfl (Or.inl rfl) (@pe_ifExp _ _ _ _ _ _ _ _ (@pt_cmpR _ _ _ _ _ _ _ _ op_eq (@pe_slice _ _ _ _ _ _ _ _ _ _ sl_strTo (@pv _ 0 _ _ (by rfl) (by first | exact Or.inl rfl | exact Or.inr (Or.inl rfl) | exact Or.inr (Or.inr rfl)) (by decide) (by decide)) po_none (@po_some _ _ _ pe_int)) pe_str (nomark _)) (@pe_slice _ _ _ _ _ _ _ _ _ _ sl_strFrom (@pv _ 0 _ _ (by rfl) (by first | exact Or.inl rfl | exact Or.inr (Or.inl rfl) | exact Or.inr (Or.inr rfl)) (by decide) (by decide)) (@po_some _ _ _ pe_int) po_none) (@pv _ 0 _ _ (by rfl) (by first | exact Or.inl rfl | exact Or.inr (Or.inl rfl) | exact Or.inr (Or.inr rfl)) (by decide) (by decide))) (by rfl) (by first | exact .inl rfl | exact .inr rfl | assumption)) (@pss_cons _ _ _ _ _ (@ps_if _ _ _ _ _ _ _ _ (PW.pt (@pw_or _ _ _ _ _ _ _ (@pt_cmpR _ _ _ _ _ _ _ _ op_eq (@pv _ 1 _ _ (by rfl) (by first | exact Or.inl rfl | exact Or.inr (Or.inl rfl) | exact Or.inr (Or.inr rfl)) (by decide) (by decide)) pe_str (nomark _)) (@pw_or _ _ _ _ _ _ _ (@pt_cmpR _ _ _ _ _ _ _ _ op_gt (@pe_callB _ _ _ _ _ _ _ _ _ call_len_str (by rfl) G.len PySem.boot_len (@pa_cons _ _ _ _ _ (@pv _ 1 _ _ (by rfl) (by first | exact Or.inl rfl | exact Or.inr (Or.inl rfl) | exact Or.inr (Or.inr rfl)) (by decide) (by decide)) pa_nil (by rfl)) (by decide) (by decide) (by rfl) (by rfl)) pe_int (nomark _)) (@pw_or1 _ _ _ _ (@pt_not _ _ _ _ (@pt_val _ _ _ (@pe_callB _ _ _ _ _ _ _ _ _ (call_allB rfl true) (by rfl) G.all (by rfl) (@pa_cons _ _ _ _ _ (@pe_lc _ _ _ _ none _ _ _ _ _ _ ["_law_sign"] [none] rfl (@pi_str _ _ _ _ (@pv _ 1 _ _ (by rfl) (by first | exact Or.inl rfl | exact Or.inr (Or.inl rfl) | exact Or.inr (Or.inr rfl)) (by decide) (by decide))) (CapOk.of (by kernel_rfl)) (fun _ _ _ _ _ => (@pg_name _ _ 0 _ (show (["_law_sign"] : List Str).Nodup from by decide +kernel) rfl (Or.inl rfl) (Or.inr rfl))) (fun _ _ _ _ _ => pt_none) (fun _ _ _ _ _ => (@pe_cmpR _ _ _ _ _ _ _ _ op_in_str (@pv _ 0 _ _ (by rfl) (by first | exact Or.inl rfl | exact Or.inr (Or.inl rfl) | exact Or.inr (Or.inr rfl)) (by decide) (by decide)) pe_str (by rfl))) (by intro _; rfl)) pa_nil (by rfl)) (by decide) (by decide) (by rfl) (by rfl)) (by intro _; rfl))))))) (@pss_one _ _ _ (@ps_ret _ _ _ _ pe_non)) pss_nil) (@pss_cons _ _ _ _ _ (@ps_if _ _ _ _ _ _ _ _ (PW.pt (@pw_and _ _ _ _ _ _ _ (@pt_cmpR _ _ _ _ _ _ _ _ op_eq (@pe_ix _ _ _ _ _ _ _ ix_str (@pv _ 1 _ _ (by rfl) (by first | exact Or.inl rfl | exact Or.inr (Or.inl rfl) | exact Or.inr (Or.inr rfl)) (by decide) (by decide)) pe_int (fun _ _ => rfl)) pe_str (nomark _)) (@pw_and1 _ _ _ _ (@pt_cmpR _ _ _ _ _ _ _ _ op_ne (@pv _ 0 _ _ (by rfl) (by first | exact Or.inl rfl | exact Or.inr (Or.inl rfl) | exact Or.inr (Or.inr rfl)) (by decide) (by decide)) pe_str (nomark _))))) (@pss_one _ _ _ (@ps_ret _ _ _ _ pe_non)) pss_nil) (@pss_one _ _ _ (@ps_ret _ _ _ _ (@pe_callTy _ _ _ _ _ _ _ _ _ call_intText (by rfl) G.int (by rfl) (@pa_cons _ _ _ _ _ (@pv _ 0 _ _ (by rfl) (by first | exact Or.inl rfl | exact Or.inr (Or.inl rfl) | exact Or.inr (Or.inr rfl)) (by decide) (by decide)) pa_nil (by rfl)) (by decide) (by decide) (by rfl) (by rfl))))))), ?_⟩
  have zs : z.length ≤ sizeLine := by rw [sizeLine_eq]; lia
  refine ⟨_, rfl, _, rfl, z, 1, rfl, rfl, rfl, zs, rfl, _, rfl, ?_⟩
  rw [s_minus, one_sign]
  refine figs_step zs (fun Q q => ⟨_, rfl, q⟩) ?_
  obtain ⟨yl, ya⟩ := figs_le z
  have bw : badW z = (!(decide (1 ≤ (figsOf z).length) && decide ((figsOf z).length ≤ 30)) || !(figsOf z).cps.toList.all figB || (decide ((figsOf z).cps.toList[0]? = some 48) && decide (z ≠ ⟨#[48]⟩))) := rfl
  generalize figsOf z = y at yl ya bw ⊢
  have ys : y.length ≤ sizeLine := by rw [sizeLine_eq]; lia
  refine ⟨_, rfl, rfl, _, rfl, ?_⟩
  rw [is_empty]
  by_cases l0 : y.length = 0
  · rw [decide_eq_true l0]
    rw [decide_eq_false (show ¬ 1 ≤ y.length by lia)] at bw
    rw [numO_bad bw] at k
    exact iteT (k H (Same.refl H))
  rw [decide_eq_false l0]
  rw [decide_eq_true (show 1 ≤ y.length by lia), Bool.true_and] at bw
  refine iteF ⟨_, rfl, y, rfl, ys, _, _, rfl, rfl, _, rfl, ?_⟩
  by_cases l30 : y.length ≤ 30
  · rw [decide_eq_false (show ¬ (30 : Int) < ((y.length : Nat) : Int) by lia)]
    rw [decide_eq_true l30] at bw
    refine iteF ⟨_, rfl, y, rfl, ascii_of fun c hc => asc c (ya c hc), fun l hl => ?_⟩
    refine lc_str (z := y) (fun i acc σ H2 => (∃ v, σ = [v]) ∧ Same H H2 ∧ H2 l = some (.lst acc) ∧ acc = ((y.cps.toList.take i).map figB).map V.bl) ⟨⟨_, rfl⟩, same_new hl _, upd_same, by rw [List.take_zero]; rfl⟩ (fun i acc σ H2 q => q.2.2.1) ?_ ?_
    · rintro i c acc σ H2 hc ⟨⟨v, rfl⟩, s2, h2, rfl⟩
      have il : i < y.length := (Array.getElem?_eq_some_iff.mp hc).1
      have ic : y.cps.toList[i]? = some c := by rw [Array.getElem?_toList]; exact hc
      refine ⟨_, rfl, _, _, rfl, rfl, ?_⟩
      rw [fig_is]
      refine ⟨h2, ?_, nx il ⟨⟨_, rfl⟩, fun b o e => ?_, upd_same, ?_⟩⟩
      · rw [List.length_map, List.length_map, List.length_take, sizeLine_eq]; lia
      · rw [upd_ne (ne_of_none e hl)]; exact s2 b o e
      · rw [List.take_succ, ic, List.map_append, List.map_append]; rfl
    rintro acc σ H2 ⟨⟨v, rfl⟩, s2, h2, rfl⟩
    refine ⟨l, _, rfl, SqL.of h2, _, rfl, ?_⟩
    rw [take_len, all_id]
    cases al : y.cps.toList.all figB with
    | false =>
      rw [al] at bw
      rw [numO_bad (bw.trans (by simp))] at k
      exact iteT (k H2 s2)
    | true =>
      rw [al] at bw
      obtain ⟨c, hc⟩ := first_sign (z := y) (by lia)
      refine iteF ⟨_, rfl, y, 0, c, rfl, rfl, ys, atI_nat hc, rfl, _, rfl, ?_⟩
      rw [s_nought, sign_eq]
      rw [hc] at bw
      by_cases c0 : c = 48
      · rw [decide_eq_true (congrArg some c0)]
        rw [decide_eq_true (congrArg some c0)] at bw
        refine iteT ⟨_, rfl, rfl, _, rfl, ?_⟩
        by_cases z0 : z = ⟨#[48]⟩
        · rw [show (!decide (V.str z = V.str ⟨#[48]⟩)) = false from by rw [z0, decide_eq_true rfl]; rfl]
          rw [decide_eq_false (fun q => q z0)] at bw
          obtain ⟨n, e1, e2, e3⟩ := numO_some (bw.trans rfl)
          rw [e1] at k
          exact iteF ⟨_, rfl, _, n, rfl, by rw [e3]; exact txt_reads e2, by rw [z0]; decide, k H2 s2⟩
        · rw [decide_eq_false (fun q => z0 (V.str.inj q))]
          rw [decide_eq_true z0] at bw
          rw [numO_bad (bw.trans rfl)] at k
          exact iteT (k H2 s2)
      · have c1 : ¬ (some c = some 48) := fun q => c0 (Option.some.inj q)
        rw [decide_eq_false c1]
        rw [decide_eq_false c1] at bw
        obtain ⟨n, e1, e2, e3⟩ := numO_some (bw.trans rfl)
        rw [e1] at k
        have tl := txt_len e2
        rw [← e3] at tl
        exact iteF ⟨_, rfl, _, n, rfl, by rw [e3]; exact txt_reads e2, by lia, k H2 s2⟩
  · rw [decide_eq_true (show (30 : Int) < ((y.length : Nat) : Int) by lia)]
    rw [decide_eq_false l30] at bw
    rw [numO_bad (bw.trans rfl)] at k
    exact iteT (k H (Same.refl H))
end
end K77
end
section
set_option maxHeartbeats 4000001
namespace K77
open PySem L2 Own Bn
abbrev sRowIn : Stmt := top 36
def kpK (n : Int) (lf : Addr) (e : V) : List (Key × V) := [(.inr "lanes", .int n), (.inr "forks", .ref lf), (.inr "ends", e)]
theorem kp_ne : ¬ ((Sum.inr "lanes" : Key) = .inr "forks") ∧ ¬ ((Sum.inr "lanes" : Key) = .inr "ends") ∧ ¬ ((Sum.inr "forks" : Key) = .inr "ends") := by decide +kernel
theorem kp_l (n : Int) (lf : Addr) (e : V) : valV (kpK n lf e) (.inr "lanes") = some (.int n) := valV_pos rfl
theorem kp_f (n : Int) (lf : Addr) (e : V) : valV (kpK n lf e) (.inr "forks") = some (.ref lf) := (valV_neg kp_ne.1).trans (valV_pos rfl)
theorem kp_e (n : Int) (lf : Addr) (e : V) : valV (kpK n lf e) (.inr "ends") = some e := (valV_neg kp_ne.2.1).trans ((valV_neg kp_ne.2.2).trans (valV_pos rfl))
theorem put_l (n m : Int) (lf : Addr) (e : V) : putK (kpK n lf e) (.inr "lanes") (.int m) = kpK m lf e := by
  unfold putK kpK
  rw [if_pos (by rw [List.any_cons, decide_eq_true rfl]; rfl)]
  rw [List.map_cons, List.map_cons, List.map_cons, if_pos rfl, if_neg (fun z => kp_ne.1 z.symm), if_neg (fun z => kp_ne.2.1 z.symm)]; rfl
theorem put_e (n : Int) (lf : Addr) (e e' : V) : putK (kpK n lf e) (.inr "ends") e' = kpK n lf e' := by
  unfold putK kpK
  rw [if_pos (by rw [List.any_cons, List.any_cons, List.any_cons, decide_eq_true rfl]; simp)]
  rw [List.map_cons, List.map_cons, List.map_cons, if_neg kp_ne.2.1, if_neg kp_ne.2.2, if_pos rfl]; rfl
structure Kpt (H : Hp) (d lf : Addr) (n : Int) (ps : List V) (fs : List (Nat × Nat)) (e : V) : Prop where
  hd : H d = some (.dK (kpK n lf e))
  hf : H lf = some (.lst ps)
  pr : Prs H ps fs
def But2 (d lf : Addr) (H H' : Hp) : Prop := ∀ b o, H b = some o → b ≠ d → b ≠ lf → H' b = some o
theorem Same.but2 {d lf : Addr} {H H' : Hp} (s : Same H H') : But2 d lf H H' := fun b o e _ _ => s b o e
theorem But2.trans {d lf : Addr} {H H' H'' : Hp} (a : But2 d lf H H') (b : But2 d lf H' H'') : But2 d lf H H'' := fun x o e n m => b x o (a x o e n m) n m
theorem But2.upd_d {d lf : Addr} {H H' : Hp} (a : But2 d lf H H') (o : HO) : But2 d lf H (L2.upd H' d o) := fun x u e n m => by rw [upd_ne n]; exact a x u e n m
theorem But2.upd_f {d lf : Addr} {H H' : Hp} (a : But2 d lf H H') (o : HO) : But2 d lf H (L2.upd H' lf o) := fun x u e n m => by rw [upd_ne m]; exact a x u e n m
theorem Kpt.same {H H' : Hp} {d lf : Addr} {n : Int} {ps : List V} {fs : List (Nat × Nat)} {e : V} (k : Kpt H d lf n ps fs e) (s : Same H H') : Kpt H' d lf n ps fs e := ⟨s _ _ k.hd, s _ _ k.hf, k.pr.tups (Tups.of s)⟩
theorem Kpt.ne {H : Hp} {d lf : Addr} {n : Int} {ps : List V} {fs : List (Nat × Nat)} {e : V} (k : Kpt H d lf n ps fs e) : d ≠ lf := ne_of k.hd k.hf (fun z => by cases z)
theorem Kpt.putd {H : Hp} {d lf : Addr} {n : Int} {ps : List V} {fs : List (Nat × Nat)} {e : V} (k : Kpt H d lf n ps fs e) (m : Int) (e' : V) : Kpt (L2.upd H d (.dK (kpK m lf e'))) d lf m ps fs e' :=
  ⟨upd_same, by rw [upd_ne k.ne.symm]; exact k.hf, k.pr.tups fun a xs h => by rw [upd_ne (ne_of h k.hd (fun z => by cases z))]; exact h⟩
def spRowIn : Sp := fun vs H Q _ => ∃ (r : Str) (j n : Nat) (d lf : Addr) (ps : List V) (fs : List (Nat × Nat)) (e : V), vs = [.str r, .int (j : Nat), .ref d] ∧ RB 10 r ∧ Kpt H d lf (n : Nat) ps fs e ∧ fs.length ≤ 1000 ∧ n ≤ 16 ∧
  (j = 0 → (lanesOf r = none → ∀ H', But2 d lf H H' → Q (.bl false) H') ∧ ∀ m, lanesOf r = some m → ∀ H', But2 d lf H H' → Kpt H' d lf (m : Nat) ps fs e → Q (.bl true) H') ∧
  (j ≠ 0 → e ≠ .non → ∀ H', But2 d lf H H' → Q (.bl false) H') ∧
  (j ≠ 0 → e = .non → (endsOf n r = none → forkOf n r = none → ∀ H', But2 d lf H H' → Q (.bl false) H') ∧
    (∀ es, endsOf n r = some es → ∀ er H', But2 d lf H H' → H' er = some (.tup (nums es)) → Kpt H' d lf (n : Nat) ps fs (.ref er) → Q (.bl true) H') ∧
    ∀ f, endsOf n r = none → forkOf n r = some f → ∀ p H', But2 d lf H H' → Kpt H' d lf (n : Nat) (ps ++ [p]) (fs ++ [f]) .non → Q (.bl (decide (fs.length < 128))) H')
theorem in_none (os : List (Option Int)) : inV .non (os.map valO) = os.contains none ∧ (os.map valO).all flatV = true := by
  induction os with
  | nil => exact ⟨rfl, rfl⟩
  | cons x r ih =>
    refine ⟨?_, ?_⟩
    · have h := ih.1
      unfold inV at h ⊢
      rw [List.map_cons, List.any_cons, h, List.contains_cons]
      cases x <;> rfl
    · rw [List.map_cons, List.all_cons, ih.2]
      cases x <;> rfl
theorem flat_up (n : Nat) : (L2.upTo n).all flatV = true := List.all_eq_true.mpr fun y hy => by
  obtain ⟨i, _, rfl⟩ := List.mem_map.mp hy; rfl
theorem up_ints (n : Nat) : L2.upTo n = ((List.range n).map fun (i : Nat) => (i : Int)).map V.int := by
  unfold L2.upTo; rw [List.map_map]; rfl
theorem in_up (n : Nat) (o : Option Int) : inV (valO o) (L2.upTo n) = belowO n o := by
  cases o with
  | none =>
    unfold inV L2.upTo
    rw [List.any_map]
    exact List.any_eq_false.mpr fun x _ => by show ¬ (false = true); decide
  | some i =>
    rw [up_ints]
    show inV (V.int i) _ = _
    rw [in_ints]
    show _ = (decide (0 ≤ i) && decide (i < (n : Nat)))
    by_cases h : 0 ≤ i ∧ i < n
    · rw [decide_eq_true h.1, decide_eq_true h.2, decide_eq_true]; rfl
      exact List.mem_map.mpr ⟨i.toNat, List.mem_range.mpr (by lia), by lia⟩
    · rw [decide_eq_false]
      · by_cases a : 0 ≤ i
        · rw [decide_eq_false (show ¬ i < (n : Nat) from fun z => h ⟨a, z⟩), Bool.and_false]
        · rw [decide_eq_false a]; rfl
      · intro m
        obtain ⟨x, hx, rfl⟩ := List.mem_map.mp m
        have := List.mem_range.mp hx
        exact h ⟨by lia, by lia⟩
theorem nums_of {os : List (Option Int)} (h : os.contains none = false) : ∃ ns : List Int, os = ns.map some := by
  induction os with
  | nil => exact ⟨[], rfl⟩
  | cons o r ih =>
    rw [List.contains_cons, Bool.or_eq_false_iff] at h
    obtain ⟨ns, e⟩ := ih h.2
    cases o with
    | none => exact absurd h.1 (by decide)
    | some i => exact ⟨i :: ns, by rw [e]; rfl⟩
theorem all_none {n : Nat} {os : List (Option Int)} (h : os.contains none = true) : allL n os = false := by
  unfold allL
  have : os.all (belowO n) = false := by
    rw [List.all_eq_false]
    exact ⟨none, List.contains_iff_mem.mp h, Bool.false_ne_true⟩
  rw [this, Bool.and_false]; rfl
theorem all_sorted {n : Nat} {ns ms : List Int} (pm : ms.Perm ns) (sm : ms.Pairwise (· ≤ ·)) : allL n (ns.map some) = decide (ms = (List.range n).map fun (i : Nat) => (i : Int)) := by
  by_cases l : ns.length = n
  · have fi := full_iff l pm sm
    by_cases e : ms = (List.range n).map fun (i : Nat) => (i : Int)
    · rw [decide_eq_true e]
      unfold allL
      rw [List.length_map, decide_eq_true l]
      have a : (ns.map some).all (belowO n) = true := List.all_eq_true.mpr fun o ho => by
        obtain ⟨i, hi, rfl⟩ := List.mem_map.mp ho
        have := pm.mem_iff.mpr hi
        rw [e] at this
        obtain ⟨x, hx, rfl⟩ := (List.mem_map.1 this)
        have := List.mem_range.mp hx
        show (decide (0 ≤ (x : Int)) && decide ((x : Int) < (n : Nat))) = true
        rw [decide_eq_true (by lia), decide_eq_true (by lia)]; rfl
      have b : ((List.range n).all fun (i : Nat) => (ns.map some).contains (some (i : Int))) = true := List.all_eq_true.mpr fun i hi => by
        rw [List.contains_iff_mem]
        exact List.mem_map.mpr ⟨_, fi.mp e i (List.mem_range.mp hi), rfl⟩
      rw [a, b]; rfl
    · rw [decide_eq_false e]
      cases q : allL n (ns.map some) with
      | false => rfl
      | true =>
        refine absurd (fi.mpr fun i hi => ?_) e
        unfold allL at q
        rw [Bool.and_eq_true] at q
        have := List.all_eq_true.mp q.2 i (List.mem_range.mpr hi)
        rw [List.contains_iff_mem] at this
        obtain ⟨x, hx, z⟩ := List.mem_map.mp this
        rw [← Option.some.inj z]; exact hx
  · rw [decide_eq_false]
    · unfold allL
      rw [List.length_map, decide_eq_false l]; rfl
    · intro e
      refine l ?_
      rw [← pm.length_eq, e, List.length_map, List.length_range]
section
variable {P : Program} {w : World} {K : PySem.W.Frag} {mg : Str → Option Value} {base : Heap}
theorem scRi : FnScope ["_law_row_here", "_law_at", "_law_kept", "_law_words", "_law_numbers", "_law_there"] ["_law_row_here", "_law_at", "_law_kept"] (defScope sRowIn) := ⟨rfl, rfl, rfl, by decide +kernel, rfl, by decide +kernel, by decide +kernel⟩
theorem ok_rowin {f fN : Addr} {fd dN : FuncData} (F : Fun K "_law_row_in" "_law_row_in" sRowIn f fd) (G : Mgs mg) (UN : Use P w K mg base "_law_number_in" ["_law_word"] 1 spNumZ fN dN) : FnOk P w K mg base CX0 2 f fd ["_law_row_here", "_law_at", "_law_kept"] spRowIn := by
  refine F.ok scRi (fun vs H Q E h => ?_) (fun cdv A outer s H vs Q E hr h => ?_)
  · obtain ⟨r, j, n, d, lf, ps, fs, e, rfl, _⟩ := h
    rfl
  obtain ⟨r, j, n, d, lf, ps, fs, e, rfl, rb, kp, f9, n16, k0, k1, k2⟩ := h
  refine ⟨_, (@pss_cons _ _ _ _ _ (@ps_set _ _ 3 _ _ _ _ scRi.nd rfl (Or.inl rfl) (@pe_bm _ _ _ _ _ _ _ _ _ _ _ _ PySem.F.plainAttrs_str PySem.F.slot_str_split PySem.F.type_str_split mt_split (@pv _ 0 _ _ (by rfl) (by first | exact Or.inl rfl | exact Or.inr (Or.inl rfl) | exact Or.inr (Or.inr rfl)) (by decide) (by decide)) (@pa_cons _ _ _ _ _ pe_str pa_nil (by rfl)) (by rfl) (by rfl) (by rfl) (by rfl) (by rfl)) (by rfl) (by first | exact .inl rfl | exact .inr rfl | assumption)) (@pss_cons _ _ _ _ _ (@ps_setLC _ 4 _ _ _ _ none _ _ _ _ _ _ _ _ ["_law_word"] [none] scRi.nd rfl rfl rfl (@pi_list _ _ _ _ (@pv _ 3 _ _ (by rfl) (by first | exact Or.inl rfl | exact Or.inr (Or.inl rfl) | exact Or.inr (Or.inr rfl)) (by decide) (by decide))) (CapOk.of (by kernel_rfl)) (fun _ _ _ _ _ => (@pg_name _ _ 0 _ (show (["_law_word"] : List Str).Nodup from by decide +kernel) rfl (Or.inl rfl) (Or.inr rfl))) (fun _ _ _ _ _ => pt_none) (fun _ _ _ _ _ => (@pe_call _ _ _ _ _ _ _ _ _ _ _ _ _ _ _ _ UN.ok hr (by rfl) UN.m UN.kp UN.b .nil pass0 (@pa_cons _ _ _ _ _ (@pv _ 0 _ _ (by rfl) (by first | exact Or.inl rfl | exact Or.inr (Or.inl rfl) | exact Or.inr (Or.inr rfl)) (by decide) (by decide)) pa_nil (by rfl)) (by decide) (by rfl) (by rfl))) (by intro _; rfl) (by with_unfolding_all rfl)) (@pss_cons _ _ _ _ _ (@ps_if _ _ _ _ _ _ _ _ (@pt_cmpR _ _ _ _ _ _ _ _ op_eq (@pv _ 1 _ _ (by rfl) (by first | exact Or.inl rfl | exact Or.inr (Or.inl rfl) | exact Or.inr (Or.inr rfl)) (by decide) (by decide)) pe_int (nomark _)) (@pss_cons _ _ _ _ _ (@ps_if _ _ _ _ _ _ _ _ (PW.pt (@pw_and _ _ _ _ _ _ _ (@pt_cmpR _ _ _ _ _ _ _ _ op_eq (@pe_callB _ _ _ _ _ _ _ _ _ call_len_seq (by rfl) G.len PySem.boot_len (@pa_cons _ _ _ _ _ (@pv _ 3 _ _ (by rfl) (by first | exact Or.inl rfl | exact Or.inr (Or.inl rfl) | exact Or.inr (Or.inr rfl)) (by decide) (by decide)) pa_nil (by rfl)) (by decide) (by decide) (by rfl) (by rfl)) pe_int (nomark _)) (@pw_and _ _ _ _ _ _ _ (@pt_cmpR _ _ _ _ _ _ _ _ op_eq (@pe_ix _ _ _ _ _ _ _ ix_list (@pv _ 3 _ _ (by rfl) (by first | exact Or.inl rfl | exact Or.inr (Or.inl rfl) | exact Or.inr (Or.inr rfl)) (by decide) (by decide)) pe_int (fun _ _ => rfl)) pe_str (nomark _)) (@pw_and _ _ _ _ _ _ _ (@pt_cmpR _ _ _ _ _ _ _ _ op_notN (@pe_ix _ _ _ _ _ _ _ ix_list (@pv _ 4 _ _ (by rfl) (by first | exact Or.inl rfl | exact Or.inr (Or.inl rfl) | exact Or.inr (Or.inr rfl)) (by decide) (by decide)) pe_int (fun _ _ => rfl)) pe_non (by rfl)) (@pw_and1 _ _ _ _ (@pt_chain _ _ _ _ _ _ _ _ _ _ _ _ op_le op_le pe_int (@pe_ix _ _ _ _ _ _ _ ix_list (@pv _ 4 _ _ (by rfl) (by first | exact Or.inl rfl | exact Or.inr (Or.inl rfl) | exact Or.inr (Or.inr rfl)) (by decide) (by decide)) pe_int (fun _ _ => rfl)) pe_int (by with_unfolding_all rfl))))))) (@pss_cons _ _ _ _ _ (@ps_dput _ _ _ _ _ _ _ _ _ hr.u1 (@pv _ 2 _ _ (by rfl) (by first | exact Or.inl rfl | exact Or.inr (Or.inl rfl) | exact Or.inr (Or.inr rfl)) (by decide) (by decide)) pe_str (@pe_ix _ _ _ _ _ _ _ ix_list (@pv _ 4 _ _ (by rfl) (by first | exact Or.inl rfl | exact Or.inr (Or.inl rfl) | exact Or.inr (Or.inr rfl)) (by decide) (by decide)) pe_int (fun _ _ => rfl)) (by rfl)) (@pss_one _ _ _ (@ps_ret _ _ _ _ pe_bl))) pss_nil) (@pss_one _ _ _ (@ps_ret _ _ _ _ pe_bl))) pss_nil) (@pss_cons _ _ _ _ _ (@ps_if _ _ _ _ _ _ _ _ (@pt_cmpR _ _ _ _ _ _ _ _ op_notN (@pe_dget _ _ _ _ _ _ hr.u1 (@pv _ 2 _ _ (by rfl) (by first | exact Or.inl rfl | exact Or.inr (Or.inl rfl) | exact Or.inr (Or.inr rfl)) (by decide) (by decide)) pe_str (fun _ _ => rfl)) pe_non (by rfl)) (@pss_one _ _ _ (@ps_ret _ _ _ _ pe_bl)) pss_nil) (@pss_cons _ _ _ _ _ (@ps_set _ _ 5 _ _ _ _ scRi.nd rfl (Or.inl rfl) (@pe_lstRng _ _ _ _ _ _ _ rfl (by rfl) G.list (by rfl) G.range (@pa_cons _ _ _ _ _ (@pe_dget _ _ _ _ _ _ hr.u1 (@pv _ 2 _ _ (by rfl) (by first | exact Or.inl rfl | exact Or.inr (Or.inl rfl) | exact Or.inr (Or.inr rfl)) (by decide) (by decide)) pe_str (fun _ _ => rfl)) pa_nil (by rfl)) (by rfl) (by rfl)) (by rfl) (by first | exact .inl rfl | exact .inr rfl | assumption)) (@pss_cons _ _ _ _ _ (@ps_if _ _ _ _ _ _ _ _ (@pt_cmpR _ _ _ _ _ _ _ _ op_eq (@pe_ix _ _ _ _ _ _ _ ix_list (@pv _ 3 _ _ (by rfl) (by first | exact Or.inl rfl | exact Or.inr (Or.inl rfl) | exact Or.inr (Or.inr rfl)) (by decide) (by decide)) pe_int (fun _ _ => rfl)) pe_str (nomark _)) (@pss_cons _ _ _ _ _ (@ps_if _ _ _ _ _ _ _ _ (PW.pt (@pw_or _ _ _ _ _ _ _ (@pt_cmpR _ _ _ _ _ _ _ _ op_in_seq pe_non (@pe_slice _ _ _ _ _ _ _ _ _ _ sl_list (@pv _ 4 _ _ (by rfl) (by first | exact Or.inl rfl | exact Or.inr (Or.inl rfl) | exact Or.inr (Or.inr rfl)) (by decide) (by decide)) (@po_some _ _ _ pe_int) po_none) (by rfl)) (@pw_or1 _ _ _ _ (@pt_cmpR _ _ _ _ _ _ _ _ (op_neLi hr.units0) (@pe_callB _ _ _ _ _ _ _ _ _ (call_sortedB true) (by rfl) G.sorted (by rfl) (@pa_cons _ _ _ _ _ (@pe_slice _ _ _ _ _ _ _ _ _ _ sl_list (@pv _ 4 _ _ (by rfl) (by first | exact Or.inl rfl | exact Or.inr (Or.inl rfl) | exact Or.inr (Or.inr rfl)) (by decide) (by decide)) (@po_some _ _ _ pe_int) po_none) pa_nil (by rfl)) (by decide) (by decide) (by rfl) (by rfl)) (@pv _ 5 _ _ (by rfl) (by first | exact Or.inl rfl | exact Or.inr (Or.inl rfl) | exact Or.inr (Or.inr rfl)) (by decide) (by decide)) (nomark _))))) (@pss_one _ _ _ (@ps_ret _ _ _ _ pe_bl)) pss_nil) (@pss_cons _ _ _ _ _ (@ps_dput _ _ _ _ _ _ _ _ _ hr.u1 (@pv _ 2 _ _ (by rfl) (by first | exact Or.inl rfl | exact Or.inr (Or.inl rfl) | exact Or.inr (Or.inr rfl)) (by decide) (by decide)) pe_str (@pe_callTy _ _ _ _ _ _ _ _ _ call_tuple_of (by rfl) G.tuple (by rfl) (@pa_cons _ _ _ _ _ (@pe_slice _ _ _ _ _ _ _ _ _ _ sl_list (@pv _ 4 _ _ (by rfl) (by first | exact Or.inl rfl | exact Or.inr (Or.inl rfl) | exact Or.inr (Or.inr rfl)) (by decide) (by decide)) (@po_some _ _ _ pe_int) po_none) pa_nil (by rfl)) (by decide) (by decide) (by rfl) (by rfl)) (by rfl)) (@pss_one _ _ _ (@ps_ret _ _ _ _ pe_bl)))) pss_nil) (@pss_cons _ _ _ _ _ (@ps_if _ _ _ _ _ _ _ _ (PW.pt (@pw_or _ _ _ _ _ _ _ (@pt_cmpR _ _ _ _ _ _ _ _ op_ne (@pe_callB _ _ _ _ _ _ _ _ _ call_len_seq (by rfl) G.len PySem.boot_len (@pa_cons _ _ _ _ _ (@pv _ 4 _ _ (by rfl) (by first | exact Or.inl rfl | exact Or.inr (Or.inl rfl) | exact Or.inr (Or.inr rfl)) (by decide) (by decide)) pa_nil (by rfl)) (by decide) (by decide) (by rfl) (by rfl)) pe_int (nomark _)) (@pw_or _ _ _ _ _ _ _ (@pt_cmpR _ _ _ _ _ _ _ _ op_notIn_seq (@pe_ix _ _ _ _ _ _ _ ix_list (@pv _ 4 _ _ (by rfl) (by first | exact Or.inl rfl | exact Or.inr (Or.inl rfl) | exact Or.inr (Or.inr rfl)) (by decide) (by decide)) pe_int (fun _ _ => rfl)) (@pv _ 5 _ _ (by rfl) (by first | exact Or.inl rfl | exact Or.inr (Or.inl rfl) | exact Or.inr (Or.inr rfl)) (by decide) (by decide)) (by rfl)) (@pw_or _ _ _ _ _ _ _ (@pt_cmpR _ _ _ _ _ _ _ _ op_notIn_seq (@pe_ix _ _ _ _ _ _ _ ix_list (@pv _ 4 _ _ (by rfl) (by first | exact Or.inl rfl | exact Or.inr (Or.inl rfl) | exact Or.inr (Or.inr rfl)) (by decide) (by decide)) pe_int (fun _ _ => rfl)) (@pv _ 5 _ _ (by rfl) (by first | exact Or.inl rfl | exact Or.inr (Or.inl rfl) | exact Or.inr (Or.inr rfl)) (by decide) (by decide)) (by rfl)) (@pw_or1 _ _ _ _ (@pt_cmpR _ _ _ _ _ _ _ _ op_eq (@pe_ix _ _ _ _ _ _ _ ix_list (@pv _ 4 _ _ (by rfl) (by first | exact Or.inl rfl | exact Or.inr (Or.inl rfl) | exact Or.inr (Or.inr rfl)) (by decide) (by decide)) pe_int (fun _ _ => rfl)) (@pe_ix _ _ _ _ _ _ _ ix_list (@pv _ 4 _ _ (by rfl) (by first | exact Or.inl rfl | exact Or.inr (Or.inl rfl) | exact Or.inr (Or.inr rfl)) (by decide) (by decide)) pe_int (fun _ _ => rfl)) (nomark _))))))) (@pss_one _ _ _ (@ps_ret _ _ _ _ pe_bl)) pss_nil) (@pss_cons _ _ _ _ _ (@ps_expr _ _ _ _ (@pe_bm _ _ _ _ _ _ _ _ _ _ _ _ PySem.F.plainAttrs_list PySem.F.slot_list_append PySem.F.type_list_append mt_append (@pe_dget _ _ _ _ _ _ hr.u1 (@pv _ 2 _ _ (by rfl) (by first | exact Or.inl rfl | exact Or.inr (Or.inl rfl) | exact Or.inr (Or.inr rfl)) (by decide) (by decide)) pe_str (fun _ _ => rfl)) (@pa_cons _ _ _ _ _ (@pe_callTy _ _ _ _ _ _ _ _ _ call_tuple_of (by rfl) G.tuple (by rfl) (@pa_cons _ _ _ _ _ (@pv _ 4 _ _ (by rfl) (by first | exact Or.inl rfl | exact Or.inr (Or.inl rfl) | exact Or.inr (Or.inr rfl)) (by decide) (by decide)) pa_nil (by rfl)) (by decide) (by decide) (by rfl) (by rfl)) pa_nil (by rfl)) (by rfl) (by rfl) (by rfl) (by rfl) (by rfl)) (by rfl)) (@pss_one _ _ _ (@ps_ret _ _ _ _ (@pe_cmpR _ _ _ _ _ _ _ _ op_lt (@pe_callB _ _ _ _ _ _ _ _ _ call_len_seq (by rfl) G.len PySem.boot_len (@pa_cons _ _ _ _ _ (@pe_dget _ _ _ _ _ _ hr.u1 (@pv _ 2 _ _ (by rfl) (by first | exact Or.inl rfl | exact Or.inr (Or.inl rfl) | exact Or.inr (Or.inr rfl)) (by decide) (by decide)) pe_str (fun _ _ => rfl)) pa_nil (by rfl)) (by decide) (by decide) (by rfl) (by rfl)) pe_int (nomark _)))))))))))), ?_⟩
  have fl := rb.len (by decide)
  have wl : (wordsC 32 r).length ≤ 17 + 10 := rb.2.1
  have ws : ∀ a ∈ wordsC 32 r, AscW a := RB.words rb
  have ne := words_ne 32 r
  refine ⟨_, rfl, rfl, _, _, rfl, rfl, rfl, by rw [sizeLine_eq]; lia, fun l hl => ?_⟩
  rw [s_sp, split_words]
  have s1 := same_new hl (.lst ((wordsC 32 r).map V.str))
  have h1 := atNew hl (.lst ((wordsC 32 r).map V.str))
  generalize L2.upd H l (.lst ((wordsC 32 r).map V.str)) = H1 at *
  refine ⟨_, rfl, l, rfl, ⟨_, SqL.of h1⟩, fun lq hlq => ?_⟩
  refine lc_list (K := K) (a := l) (xs := (wordsC 32 r).map V.str) (fun j acc σ H2 => (∃ v, σ = [v]) ∧ Same H1 H2 ∧ H2 lq = some (.lst acc) ∧ acc = (((wordsC 32 r).take j).map numO).map valO) ⟨⟨_, rfl⟩, same_new hlq _, upd_same, by rw [List.take_zero]; rfl⟩ (fun j acc σ H2 q => ⟨q.2.2.1, SqL.of (q.2.1 _ _ h1)⟩) ?_ ?_
  · rintro i x acc σ H2 hx ⟨⟨v, rfl⟩, s2, h2, rfl⟩
    have jl : i < (wordsC 32 r).length := by have := (List.getElem?_eq_some_iff.mp hx).1; rwa [List.length_map] at this
    rw [List.getElem?_map, List.getElem?_eq_getElem jl] at hx
    obtain rfl := Option.some.inj hx
    refine ⟨_, rfl, (wordsC 32 r)[i], rfl, ws _ (List.getElem_mem jl), fun H3 s3 => ?_⟩
    refine ⟨s3 _ _ h2, by rw [List.length_map, List.length_map, List.length_take, sizeLine_eq]; lia, nx (by rw [List.length_map]; exact jl) ⟨⟨_, rfl⟩, fun b o e => ?_, upd_same, ?_⟩⟩
    · rw [upd_ne (ne_of_none e hlq)]; exact (s2.trans s3) b o e
    · rw [List.take_succ_eq_append_getElem jl, List.map_append, List.map_append]; rfl
  rintro acc σ H2 ⟨⟨v, rfl⟩, s2, h2, rfl⟩
  rw [List.length_map, List.take_length] at h2
  have hw := s2 _ _ h1
  have kp2 := (kp.same s1).same s2
  have t2 := s1.trans s2
  have b2 : But2 d lf H H2 := Same.but2 t2
  have lo : lanesOf r = match wordsC 32 r with
    | [a, b] => if a = Str.ofString "lanes" then match numO b with
      | some n => if 1 ≤ n ∧ n ≤ 16 then some n.toNat else none
      | none => none
      else none
    | _ => none := rfl
  have eo : endsOf n r = match wordsC 32 r with
    | a :: t => if a = Str.ofString "ends" ∧ allL n (t.map numO) = true then some ((t.map numO).map fun o => (o.getD 0).toNat) else none
    | [] => none := rfl
  have fo : forkOf n r = forkO n ((wordsC 32 r).map numO) := rfl
  generalize wordsC 32 r = zs at lo eo fo ne wl ws hw h2
  cases zs with
  | nil => exact absurd rfl ne
  | cons a t =>
  have tl : t.length ≤ 26 := by rw [List.length_cons] at wl; lia
  refine ⟨_, rfl, rfl, _, rfl, ?_⟩
  by_cases j0 : j = 0
  · subst j0
    obtain ⟨k01, k02⟩ := k0 rfl
    refine iteT ?_
    refine ⟨_, rfl, l, _, rfl, .inl (SqL.of hw), rfl, _, rfl, ?_⟩
    have no : lanesOf r = none → ∀ H', But2 d lf H H' → Q (.bl false) H' := k01
    by_cases el : t.length = 1
    · obtain ⟨b, rfl⟩ : ∃ b, t = [b] := by
        cases t with
        | nil => cases el
        | cons b t' => cases t' with
          | nil => exact ⟨b, rfl⟩
          | cons c t'' => simp at el
      dsimp only at lo
      refine iteT ⟨_, rfl, l, _, _, _, rfl, rfl, SqL.of hw, rfl, rfl, _, rfl, ?_⟩
      by_cases ea : a = Str.ofString "lanes"
      · rw [decide_eq_true (congrArg V.str ea)]
        rw [if_pos ea] at lo
        refine iteT ⟨_, rfl, lq, _, _, _, rfl, rfl, SqL.of h2, rfl, rfl, _, rfl, ?_⟩
        cases eb : numO b with
        | none =>
          rw [eb] at lo
          exact iteF (no lo H2 b2)
        | some m =>
          rw [eb] at lo
          dsimp only at lo
          refine iteT ⟨_, rfl, lq, _, _, _, rfl, rfl, SqL.of h2, rfl, _, _, rfl, congrArg valO eb, _, rfl, ?_⟩
          by_cases m1 : 1 ≤ m
          · rw [decide_eq_true m1]
            refine iteT ⟨_, _, congrArg valO eb, rfl, _, rfl, ?_⟩
            by_cases m16 : m ≤ 16
            · rw [decide_eq_true m16]
              rw [if_pos ⟨m1, m16⟩] at lo
              refine iteT ⟨_, rfl, lq, _, _, _, rfl, rfl, SqL.of h2, rfl, _, rfl, d, _, rfl, DPut.k (k := .inr "lanes") kp2.hd (by show 3 < sizeLine; decide), ?_⟩
              have em : valO (numO b) = .int ((m.toNat : Nat) : Int) := by rw [eb, Int.toNat_of_nonneg (by lia)]; rfl
              show Q (.bl true) (L2.upd H2 d (.dK (putK (kpK n lf e) (.inr "lanes") (valO (numO b)))))
              rw [em, put_l]
              exact k02 _ lo _ (b2.upd_d _) (kp2.putd _ _)
            · rw [decide_eq_false m16]
              rw [if_neg (fun z => m16 z.2)] at lo
              exact iteF (no lo H2 b2)
          · rw [decide_eq_false m1]
            rw [if_neg (fun z => m1 z.1)] at lo
            exact iteF ⟨_, rfl, iteF (no lo H2 b2)⟩
      · rw [decide_eq_false (fun z => ea (V.str.inj z))]
        rw [if_neg ea] at lo
        exact iteF (no lo H2 b2)
    · have lo' : lanesOf r = none := by
        rw [lo]
        cases t with
        | nil => rfl
        | cons b t' => cases t' with
          | nil => exact absurd rfl el
          | cons c t'' => rfl
      rw [List.length_map, List.length_cons, decide_eq_false (fun z => el (by have := V.int.inj z; lia))]
      exact iteF (no lo' H2 b2)
  · obtain k1 := k1 j0
    obtain k2 := k2 j0
    rw [decide_eq_false (fun z => j0 (by have := V.int.inj z; lia))]
    refine iteF ?_
    refine ⟨_, rfl, d, _, rfl, kp_e _ _ _ ▸ DGet.k (k := .inr "ends") kp2.hd, rfl, _, rfl, ?_⟩
    by_cases en : e = .non
    · subst en
      obtain ⟨q1, q2, q3⟩ := k2 rfl
      rw [show (!decide (V.non = V.non)) = false by rw [decide_eq_true rfl]; rfl]
      refine iteF ⟨_, rfl, d, _, rfl, kp_l _ _ _ ▸ DGet.k (k := .inr "lanes") kp2.hd, n, rfl, by lia, fun p hp => ?_⟩
      have s3 := same_new hp (if true = true then HO.lst (L2.upTo n) else .tup (L2.upTo n))
      have hp3 : L2.upd H2 p (if true = true then HO.lst (L2.upTo n) else .tup (L2.upTo n)) p = some (.lst (L2.upTo n)) := upd_same
      generalize L2.upd H2 p (if true = true then HO.lst (L2.upTo n) else .tup (L2.upTo n)) = H3 at s3 hp3 ⊢
      have t3 := t2.trans s3
      have kp3 := kp2.same s3
      have hw3 := s3 _ _ hw
      have h3 := s3 _ _ h2
      have ec : cutV (((a :: t).map numO).map valO) (some 1) none = (t.map numO).map valO := cut_from (((a :: t).map numO).map valO) 1 (by rw [List.length_map, List.length_map, List.length_cons]; lia)
      refine ⟨_, rfl, l, _, _, V.str a, rfl, rfl, SqL.of hw3, atI_nat rfl, rfl, _, rfl, ?_⟩
      dsimp only at eo
      by_cases ea : a = Str.ofString "ends"
      · rw [decide_eq_true (congrArg V.str ea)]
        have fo' : forkOf n r = none := by rw [fo, List.map_cons, ea, ends_bad]; rfl
        refine iteT ⟨_, rfl, _, rfl, lq, _, rfl, SqL.of h3, fun l4 hl4 => ?_⟩
        rw [ec]
        obtain ⟨i1, i2⟩ := in_none (t.map numO)
        have s4 := same_new hl4 (.lst ((t.map numO).map valO))
        refine ⟨l4, _, rfl, .inl (SqL.of upd_same), rfl, i2, _, rfl, ?_⟩
        rw [if_neg Bool.false_ne_true, i1]
        generalize L2.upd H3 l4 (.lst ((t.map numO).map valO)) = H4 at s4 ⊢
        cases cn : (t.map numO).contains none with
        | true =>
          rw [if_neg (fun z => by rw [all_none cn] at z; cases z.2)] at eo
          exact iteT (q1 eo fo' _ (Same.but2 (t3.trans s4)))
        | false =>
          obtain ⟨ns, en⟩ := nums_of cn
          have nl : ns.length = t.length := by rw [← List.length_map (f := some), ← en, List.length_map]
          have ev : (t.map numO).map valO = ns.map V.int := by rw [en, List.map_map]; rfl
          refine iteF ⟨_, rfl, _, rfl, lq, _, rfl, SqL.of (s4 _ _ h3), fun l5 hl5 => ?_⟩
          rw [ec, ev]
          have s5 := same_new hl5 (.lst (ns.map V.int))
          refine ⟨l5, ns, rfl, SqL.of upd_same, by lia, fun l6 ms hl6 pm sm => ?_⟩
          have s6 := same_new hl6 (.lst (ms.map V.int))
          have t6 := ((t3.trans s4).trans s5).trans s6
          have u6 := (s4.trans s5).trans s6
          refine ⟨_, rfl, l6, p, ms, (List.range n).map (fun (i : Nat) => (i : Int)), rfl, rfl, SqL.of upd_same, SqL.of (by rw [← up_ints]; exact u6 _ _ hp3), _, rfl, ?_⟩
          have al := all_sorted (n := n) pm sm
          rw [← en] at al
          rw [← al]
          have kp6 := kp3.same u6
          have h6 := u6 _ _ h3
          generalize L2.upd (L2.upd H4 l5 (.lst (ns.map V.int))) l6 (.lst (ms.map V.int)) = H6 at t6 kp6 h6 ⊢
          cases aa : allL n (t.map numO) with
          | false =>
            rw [if_neg (fun z => by rw [aa] at z; cases z.2)] at eo
            exact iteT (q1 eo fo' _ (Same.but2 t6))
          | true =>
            rw [if_pos ⟨ea, aa⟩] at eo
            obtain ⟨p1, _⟩ := allL_perm aa
            refine iteF ⟨_, rfl, _, rfl, lq, _, rfl, SqL.of h6, fun l7 hl7 => ?_⟩
            rw [ec]
            have s7 := same_new hl7 (.lst ((t.map numO).map valO))
            refine ⟨l7, _, rfl, .inl ⟨SqL.of upd_same, fun er her => ?_⟩⟩
            have s8 := same_new her (.tup ((t.map numO).map valO))
            have kp8 := (kp6.same s7).same s8
            have t8 := (t6.trans s7).trans s8
            have h8 : L2.upd (L2.upd H6 l7 (.lst ((t.map numO).map valO))) er (.tup ((t.map numO).map valO)) er = some (.tup (nums ((t.map numO).map fun o => (o.getD 0).toNat))) := by
              rw [upd_same]
              generalize ((t.map numO).map fun o => (o.getD 0).toNat) = es at p1 ⊢
              rw [p1, List.map_map]; rfl
            generalize L2.upd (L2.upd H6 l7 (.lst ((t.map numO).map valO))) er (.tup ((t.map numO).map valO)) = H8 at kp8 t8 h8 ⊢
            refine ⟨_, rfl, d, _, rfl, DPut.k (k := .inr "ends") kp8.hd (by show 3 < sizeLine; decide), ?_⟩
            show Q (.bl true) (L2.upd H8 d (.dK (putK (kpK n lf .non) (.inr "ends") (.ref er))))
            rw [put_e]
            refine q2 _ eo er _ ((Same.but2 t8).upd_d _) ?_ (kp8.putd _ _)
            rw [upd_ne (ne_of h8 kp8.hd (fun z => by cases z))]; exact h8
      · rw [decide_eq_false (fun z => ea (V.str.inj z))]
        rw [if_neg (fun z => ea z.1)] at eo
        have b3 : But2 d lf H H3 := Same.but2 t3
        refine iteF ⟨_, rfl, lq, _, rfl, .inl (SqL.of h3), rfl, _, rfl, ?_⟩
        rw [List.length_map, List.length_map]
        by_cases el : (a :: t).length = 2
        · obtain ⟨b, rfl⟩ : ∃ b, t = [b] := by
            cases t with
            | nil => cases el
            | cons b t' => cases t' with
              | nil => exact ⟨b, rfl⟩
              | cons c t'' => simp at el
          have fo2 : forkOf n r = forkO n [numO a, numO b] := fo
          refine iteNS rfl ⟨_, rfl, lq, _, _, valO (numO a), rfl, rfl, SqL.of h3, rfl, _, rfl, p, _, rfl, .inl (SqL.of hp3), by cases numO a <;> rfl, flat_up n, _, rfl, ?_⟩
          rw [if_pos rfl, in_up]
          cases xa : belowO n (numO a) with
          | false =>
            have f0 : forkOf n r = none := by
              rw [fo2]
              cases ya : numO a with
              | none => cases numO b <;> rfl
              | some i =>
                cases yb : numO b with
                | none => rfl
                | some j =>
                  unfold forkO
                  dsimp only
                  rw [← ya, xa]; rfl
            exact iteT (q1 eo f0 _ b3)
          | true =>
            refine iteF ⟨_, rfl, lq, _, _, valO (numO b), rfl, rfl, SqL.of h3, rfl, _, rfl, p, _, rfl, .inl (SqL.of hp3), by cases numO b <;> rfl, flat_up n, _, rfl, ?_⟩
            rw [if_pos rfl, in_up]
            cases ya : numO a with
            | none => rw [ya] at xa; cases xa
            | some i =>
            rw [ya] at fo2 xa
            cases xb : belowO n (numO b) with
            | false =>
              have f0 : forkOf n r = none := by
                rw [fo2]
                cases yb : numO b with
                | none => rfl
                | some j =>
                  unfold forkO
                  dsimp only
                  rw [← yb, xb, xa]; rfl
              exact iteT (q1 eo f0 _ b3)
            | true =>
              cases yb : numO b with
              | none => rw [yb] at xb; cases xb
              | some j =>
              rw [yb] at fo2 xb
              have hn : H3 lq = some (.lst [.int i, .int j]) := by
                rw [h3]
                show some (HO.lst [valO (numO a), valO (numO b)]) = _
                rw [ya, yb]; rfl
              refine iteF ⟨_, rfl, lq, _, _, .int i, rfl, rfl, SqL.of hn, rfl, _, rfl, lq, _, _, .int j, rfl, rfl, SqL.of hn, rfl, rfl, _, rfl, ?_⟩
              by_cases ij : i = j
              · have f0 : forkOf n r = none := by
                  rw [fo2]
                  unfold forkO
                  dsimp only
                  rw [decide_eq_true ij, Bool.not_true, Bool.and_false, Bool.and_false]; rfl
                rw [decide_eq_true (congrArg V.int ij)]
                exact iteT (q1 eo f0 _ b3)
              · have f1 : forkOf n r = some (i.toNat, j.toNat) := by
                  rw [fo2]
                  unfold forkO
                  dsimp only
                  rw [xa, xb, decide_eq_false ij]; rfl
                have fk := (forkO_ok (fo.symm.trans f1)).1
                rw [decide_eq_false (fun z => ij (V.int.inj z))]
                have pl := kp.pr.len
                refine iteF ⟨_, rfl, d, .ref lf, rfl, kp_f _ _ _ ▸ DGet.k (k := .inr "forks") kp3.hd, .inl ⟨rfl, _, SqL.of kp3.hf⟩, _, rfl, lq, _, rfl, .inl ⟨SqL.of hn, fun tp htp => ?_⟩⟩
                have s4 := same_new htp (.tup [.int i, .int j])
                have kp4 := kp3.same s4
                have ht4 := atNew htp (.tup [.int i, .int j])
                have t4 := t3.trans s4
                generalize L2.upd H3 tp (.tup [.int i, .int j]) = H4 at s4 kp4 ht4 t4 ⊢
                refine ⟨lf, _, _, rfl, rfl, kp4.hf, by rw [sizeLine_eq]; lia, ?_⟩
                have kp5 : Kpt (L2.upd H4 lf (.lst (ps ++ [.ref tp]))) d lf (n : Nat) (ps ++ [.ref tp]) (fs ++ [(i.toNat, j.toNat)]) .non := by
                  refine ⟨by rw [upd_ne kp4.ne]; exact kp4.hd, upd_same, ?_⟩
                  have ei : ((i.toNat : Nat) : Int) = i := by
                    have : decide (0 ≤ i) = true ∧ decide (i < (n : Nat)) = true := by rw [← Bool.and_eq_true]; exact xa
                    exact Int.toNat_of_nonneg (of_decide_eq_true this.1)
                  have ej : ((j.toNat : Nat) : Int) = j := by
                    have : decide (0 ≤ j) = true ∧ decide (j < (n : Nat)) = true := by rw [← Bool.and_eq_true]; exact xb
                    exact Int.toNat_of_nonneg (of_decide_eq_true this.1)
                  have ht5 : H4 tp = some (.tup [.int ((i.toNat : Nat) : Int), .int ((j.toNat : Nat) : Int)]) := by rw [ei, ej]; exact ht4
                  exact Prs.add (f := (i.toNat, j.toNat)) (Tups.lst kp4.hf _ _ ht5) (kp4.pr.tups (Tups.lst kp4.hf))
                refine ⟨_, rfl, d, _, rfl, kp_f _ _ _ ▸ DGet.k (k := .inr "forks") kp5.hd, lf, _, rfl, .inl (SqL.of kp5.hf), _, _, rfl, rfl, ?_⟩
                have q := q3 _ eo f1 _ _ ((Same.but2 t4).upd_f _) kp5
                have ed : decide ((((ps ++ [V.ref tp]).length : Nat) : Int) < 129) = decide (fs.length < 128) := decide_eq_decide.mpr (by rw [List.length_append, List.length_singleton]; lia)
                rw [← ed] at q
                exact q
        · have f0 : forkOf n r = none := by
            rw [fo]
            cases t with
            | nil => show forkO n [numO a] = none; cases numO a <;> rfl
            | cons b t' => cases t' with
              | nil => exact absurd rfl el
              | cons c t'' => show forkO n (numO a :: numO b :: numO c :: t''.map numO) = none; cases numO a <;> cases numO b <;> rfl
          rw [decide_eq_false (fun z => el (by have := V.int.inj z; lia))]
          exact iteT (q1 eo f0 _ b3)
    · rw [decide_eq_false en]
      exact iteT (k1 en H2 b2)
end
end K77
end
section
set_option maxHeartbeats 4000001
namespace K77
open PySem L2 Own Bn
abbrev sReadL : Stmt := top 37
def TellAt (H : Hp) (r : Addr) : Nat ⊕ Nt → Prop
  | .inl k => H r = some (.tup [.str "row", .int (k : Nat)])
  | .inr N => ∃ q fr er ps, H r = some (.tup [.str "net", .ref q]) ∧ NetAt H q fr er ps N
def spReadL : Sp := fun vs H Q _ => ∃ rows : List Str, vs = [.str (Txt.join sNl rows)] ∧ RowsB 10 rows ∧ ∀ r H', Same H H' → TellAt H' r (rdR rows) → Q (.ref r) H'
def StR (H : Hp) (d lf : Addr) (rows : List Str) (j : Nat) : Prop :=
  (j = 0 ∧ Kpt H d lf ((0 : Nat) : Int) [] [] .non) ∨
  (∃ n fs ps, 1 ≤ j ∧ n ≤ 16 ∧ fs.length ≤ 128 ∧ Kpt H d lf ((n : Nat) : Int) ps fs .non ∧ rdR rows = goR n fs j (rows.drop j)) ∨
  ∃ n fs ps er es, 1 ≤ j ∧ n ≤ 16 ∧ fs.length ≤ 128 ∧ Kpt H d lf ((n : Nat) : Int) ps fs (.ref er) ∧ H er = some (.tup (nums es)) ∧ rdR rows = if rows.drop j = [] then .inr ⟨n, fs, es⟩ else .inl j
theorem StR.same {H H' : Hp} {d lf : Addr} {rows : List Str} {j : Nat} (h : StR H d lf rows j) (s : Same H H') : StR H' d lf rows j := by
  rcases h with ⟨a, b⟩ | ⟨n, fs, ps, a, b, c, e, g⟩ | ⟨n, fs, ps, er, es, a, b, c, e, g, i⟩
  · exact .inl ⟨a, b.same s⟩
  · exact .inr (.inl ⟨n, fs, ps, a, b, c, e.same s, g⟩)
  · exact .inr (.inr ⟨n, fs, ps, er, es, a, b, c, e.same s, s _ _ g, i⟩)
theorem drop_at {α : Type} {xs : List α} {j : Nat} {x : α} (h : xs[j]? = some x) : xs.drop j = x :: xs.drop (j + 1) := by
  obtain ⟨l, e⟩ := List.getElem?_eq_some_iff.mp h
  rw [← e]; exact List.drop_eq_getElem_cons l
section
variable {P : Program} {w : World} {K : PySem.W.Frag} {mg : Str → Option Value} {base : Heap}
theorem scRd : FnScope ["_law_text_here", "_law_kept", "_law_rows", "_law_at", "_law_row_here"] ["_law_text_here"] (defScope sReadL) := ⟨rfl, rfl, rfl, by decide +kernel, rfl, by decide +kernel, by decide +kernel⟩
theorem ok_readl {f fR : Addr} {fd dR : FuncData} (F : Fun K "_law_read" "_law_read" sReadL f fd) (G : Mgs mg) (UR : Use P w K mg base "_law_row_in" ["_law_row_here", "_law_at", "_law_kept"] 2 spRowIn fR dR) : FnOk P w K mg base CX0 3 f fd ["_law_text_here"] spReadL := by
  refine F.ok scRd (fun vs H Q E h => ?_) (fun cdv A outer s H vs Q E hr h => ?_)
  · obtain ⟨rows, rfl, _⟩ := h
    rfl
  obtain ⟨rows, rfl, rb, k⟩ := h
  refine ⟨_, (@pss_cons _ _ _ _ _ (@ps_set _ _ 1 _ _ _ _ scRd.nd rfl (Or.inl rfl) (@pe_disp _ _ _ _ _ (pps_cons pe_str pe_int (pps_cons pe_str (@pe_lst _ _ _ _ pa_nil) (pps_cons pe_str pe_non pps_nil))) rfl rfl (by simp) (by decide)) (by rfl) (by first | exact .inl rfl | exact .inr rfl | assumption)) (@pss_cons _ _ _ _ _ (@ps_set _ _ 2 _ _ _ _ scRd.nd rfl (Or.inl rfl) (@pe_bm _ _ _ _ _ _ _ _ _ _ _ _ PySem.F.plainAttrs_str PySem.F.slot_str_split PySem.F.type_str_split mt_split (@pv _ 0 _ _ (by rfl) (by first | exact Or.inl rfl | exact Or.inr (Or.inl rfl) | exact Or.inr (Or.inr rfl)) (by decide) (by decide)) (@pa_cons _ _ _ _ _ pe_str pa_nil (by rfl)) (by rfl) (by rfl) (by rfl) (by rfl) (by rfl)) (by rfl) (by first | exact .inl rfl | exact .inr rfl | assumption)) (@pss_cons _ _ _ _ _ (@ps_for _ _ _ _ _ _ _ _ PassesOwn.never rfl (@pi_enum _ _ _ _ _ _ _ _ true rfl G.enum (@pa_cons _ _ _ _ _ (@pv _ 2 _ _ (by rfl) (by first | exact Or.inl rfl | exact Or.inr (Or.inl rfl) | exact Or.inr (Or.inr rfl)) (by decide) (by decide)) pa_nil (by rfl)) (by rfl)) (@pg_tup _ _ _ _ _ _ rfl (@pgs_cons _ _ _ _ _ (@pg_name _ _ 3 _ scRd.nd rfl (Or.inl rfl) (by first | exact .inl rfl | exact .inr rfl | assumption)) (@pgs_cons _ _ _ _ _ (@pg_name _ _ 4 _ scRd.nd rfl (Or.inl rfl) (by first | exact .inl rfl | exact .inr rfl | assumption)) pgs_nil (by rfl)) (by rfl)) (by rfl) (by rfl)) (@pss_one _ _ _ (@ps_if _ _ _ _ _ _ _ _ (@pt_not _ _ _ _ (@pt_val _ _ _ (@pe_call _ _ _ _ _ _ _ _ _ _ _ _ _ _ _ _ UR.ok hr (by rfl) UR.m UR.kp UR.b .nil pass0 (@pa_cons _ _ _ _ _ (@pv _ 4 _ _ (by rfl) (by first | exact Or.inl rfl | exact Or.inr (Or.inl rfl) | exact Or.inr (Or.inr rfl)) (by decide) (by decide)) (@pa_cons _ _ _ _ _ (@pv _ 3 _ _ (by rfl) (by first | exact Or.inl rfl | exact Or.inr (Or.inl rfl) | exact Or.inr (Or.inr rfl)) (by decide) (by decide)) (@pa_cons _ _ _ _ _ (@pv _ 1 _ _ (by rfl) (by first | exact Or.inl rfl | exact Or.inr (Or.inl rfl) | exact Or.inr (Or.inr rfl)) (by decide) (by decide)) pa_nil (by rfl)) (by rfl)) (by rfl)) (by decide) (by rfl) (by rfl)) (by intro _; rfl))) (@pss_one _ _ _ (@ps_ret _ _ _ _ (@pe_tup _ _ _ _ _ (@pa_cons _ _ _ _ _ pe_str (@pa_cons _ _ _ _ _ (@pv _ 3 _ _ (by rfl) (by first | exact Or.inl rfl | exact Or.inr (Or.inl rfl) | exact Or.inr (Or.inr rfl)) (by decide) (by decide)) pa_nil (by rfl)) (by rfl))))) pss_nil)) (by intro _; rfl)) (@pss_cons _ _ _ _ _ (@ps_if _ _ _ _ _ _ _ _ (@pt_cmpR _ _ _ _ _ _ _ _ op_isN (@pe_dget _ _ _ _ _ _ hr.u1 (@pv _ 1 _ _ (by rfl) (by first | exact Or.inl rfl | exact Or.inr (Or.inl rfl) | exact Or.inr (Or.inr rfl)) (by decide) (by decide)) pe_str (fun _ _ => rfl)) pe_non (by rfl)) (@pss_one _ _ _ (@ps_ret _ _ _ _ (@pe_tup _ _ _ _ _ (@pa_cons _ _ _ _ _ pe_str (@pa_cons _ _ _ _ _ (@pe_callB _ _ _ _ _ _ _ _ _ call_len_seq (by rfl) G.len PySem.boot_len (@pa_cons _ _ _ _ _ (@pv _ 2 _ _ (by rfl) (by first | exact Or.inl rfl | exact Or.inr (Or.inl rfl) | exact Or.inr (Or.inr rfl)) (by decide) (by decide)) pa_nil (by rfl)) (by decide) (by decide) (by rfl) (by rfl)) pa_nil (by rfl)) (by rfl))))) pss_nil) (@pss_one _ _ _ (@ps_ret _ _ _ _ (@pe_tup _ _ _ _ _ (@pa_cons _ _ _ _ _ pe_str (@pa_cons _ _ _ _ _ (@pe_tup _ _ _ _ _ (@pa_cons _ _ _ _ _ (@pe_dget _ _ _ _ _ _ hr.u1 (@pv _ 1 _ _ (by rfl) (by first | exact Or.inl rfl | exact Or.inr (Or.inl rfl) | exact Or.inr (Or.inr rfl)) (by decide) (by decide)) pe_str (fun _ _ => rfl)) (@pa_cons _ _ _ _ _ (@pe_callTy _ _ _ _ _ _ _ _ _ call_tuple_of (by rfl) G.tuple (by rfl) (@pa_cons _ _ _ _ _ (@pe_dget _ _ _ _ _ _ hr.u1 (@pv _ 1 _ _ (by rfl) (by first | exact Or.inl rfl | exact Or.inr (Or.inl rfl) | exact Or.inr (Or.inr rfl)) (by decide) (by decide)) pe_str (fun _ _ => rfl)) pa_nil (by rfl)) (by decide) (by decide) (by rfl) (by rfl)) (@pa_cons _ _ _ _ _ (@pe_dget _ _ _ _ _ _ hr.u1 (@pv _ 1 _ _ (by rfl) (by first | exact Or.inl rfl | exact Or.inr (Or.inl rfl) | exact Or.inr (Or.inr rfl)) (by decide) (by decide)) pe_str (fun _ _ => rfl)) pa_nil (by rfl)) (by rfl)) (by rfl))) pa_nil (by rfl)) (by rfl))))))))), ?_⟩
  intro d hd
  have s0 := same_new hd (.dK [])
  refine ⟨(by show 0 ≤ sizeLine; decide), fun lf hlf => ?_⟩
  have s1 := same_new hlf (.lst [])
  have ndf : d ≠ lf := ne_of_none (upd_same (H := H)) hlf
  refine ⟨s1 _ _ upd_same, kpK 0 lf .non, rfl, by show 3 ≤ 15; decide, ?_⟩
  have em : mergeK [] (kpK 0 lf .non) = kpK 0 lf .non := by
    show putK (putK (putK [] (Sum.inr "lanes" : Key) (.int 0)) (Sum.inr "forks" : Key) (.ref lf)) (Sum.inr "ends" : Key) .non = _
    unfold putK
    simp only [List.any_nil, Bool.false_eq_true, if_false, List.nil_append, List.any_cons, Bool.or_false, List.cons_append, decide_eq_true_eq, Bool.or_eq_true]
    obtain ⟨a, b, c⟩ := kp_ne
    rw [if_neg a]
    simp only [List.any_cons, List.any_nil, Bool.or_false, Bool.or_eq_true, decide_eq_true_eq]
    rw [if_neg (fun z => z.elim b c)]
    rfl
  rw [em]
  have kp0 : Kpt (L2.upd (L2.upd (L2.upd H d (.dK [])) lf (.lst [])) d (.dK (kpK 0 lf .non))) d lf ((0 : Nat) : Int) [] [] .non := ⟨upd_same, by rw [upd_ne ndf.symm]; exact upd_same, trivial⟩
  have fd0 : H d = none := hd
  have fl0 : H lf = none := by
    cases e : H lf with
    | none => rfl
    | some o => rw [s0 _ _ e] at hlf; cases hlf
  have S2 : Same H (L2.upd (L2.upd (L2.upd H d (.dK [])) lf (.lst [])) d (.dK (kpK 0 lf .non))) := fun b o e => by
    rw [upd_ne (ne_of_none e fd0), upd_ne (ne_of_none e fl0), upd_ne (ne_of_none e fd0)]; exact e
  generalize L2.upd (L2.upd (L2.upd H d (.dK [])) lf (.lst [])) d (.dK (kpK 0 lf .non)) = H2 at kp0 S2 ⊢
  refine ⟨_, rfl, rfl, _, _, rfl, rfl, rfl, rb.len (by decide), fun l hl => ?_⟩
  rw [s_nl, rb.split]
  have s3 := same_new hl (.lst (rows.map V.str))
  have h3 := atNew hl (.lst (rows.map V.str))
  have kp3 := kp0.same s3
  have S3 := S2.trans s3
  generalize L2.upd H2 l (.lst (rows.map V.str)) = H3 at s3 h3 kp3 S3
  have nld : l ≠ d := (ne_of kp3.hd h3 (fun z => by cases z)).symm
  have nlf : l ≠ lf := (ne_of_none kp0.hf hl).symm
  have rl := rb.2.1
  have keepS : ∀ {H5 : Hp}, But2 d lf H3 H5 → Same H H5 := fun b5 b o e => b5 b o (S3 b o e) (ne_of_none e fd0) (ne_of_none e fl0)
  refine ⟨_, rfl, l, _, rfl, SqL.of h3, ?_⟩
  refine for_enum (K := K) (b := true) (a := l) (xs := rows.map V.str) (fun j σ H4 => (∃ v3 v4, σ = [some (.str (Txt.join sNl rows)), some (.ref d), some (.ref l), v3, v4]) ∧ But2 d lf H3 H4 ∧ StR H4 d lf rows j) ⟨⟨_, _, rfl⟩, fun b o e _ _ => e, .inl ⟨rfl, kp3⟩⟩ (fun j σ H4 _ q => SqL.of (q.2.1 _ _ h3 nld nlf)) ?_ ?_
  · rintro j x σ H4 T hx hT ⟨⟨v3, v4, rfl⟩, b4, st⟩
    have jl : j < rows.length := by have := (List.getElem?_eq_some_iff.mp hx).1; rwa [List.length_map] at this
    rw [List.getElem?_map] at hx
    cases er : rows[j]? with
    | none => rw [er] at hx; cases hx
    | some r =>
    rw [er] at hx
    obtain rfl := Option.some.inj hx
    have rr := rb.2.2 r (List.mem_of_getElem? er)
    have dr := drop_at er
    have s5 := same_new hT (.tup [.int (j : Nat), .str r])
    have st5 := st.same s5
    have b5 : But2 d lf H3 (L2.upd H4 T (.tup [.int (j : Nat), .str r])) := b4.trans (Same.but2 s5)
    refine ⟨T, _, rfl, SqT.of upd_same, rfl, _, _, rfl, _, _, rfl, rfl, ?_⟩
    generalize L2.upd H4 T (.tup [.int (j : Nat), .str r]) = H5 at st5 b5 ⊢
    have fin : ∀ H6, But2 d lf H5 H6 → rdR rows = .inl j → ∀ t, H6 t = none → Q (.ref t) (L2.upd H6 t (.tup [.str "row", .int (j : Nat)])) := fun H6 b6 e t ht => by
      refine k t _ ((keepS (b5.trans b6)).trans (same_new ht _)) ?_
      rw [e]; exact upd_same
    refine ⟨_, rfl, _, rfl, _, rfl, ?_⟩
    rcases st5 with ⟨j0, kp⟩ | ⟨n, fs, ps, j1, n16, fl, kp, go⟩ | ⟨n, fs, ps, er', es, j1, n16, fl, kp, he, go⟩
    · subst j0
      refine ⟨r, 0, 0, d, lf, [], [], .non, rfl, rr, kp, by show 0 ≤ 1000; decide, by decide, fun _ => ⟨fun e H6 b6 => ?_, fun m e H6 b6 k6 => ?_⟩, fun z => absurd rfl z, fun z => absurd rfl z⟩
      · refine ⟨_, rfl, iteT ⟨_, rfl, by show 2 ≤ sizeLine; decide, fin H6 b6 ?_⟩⟩
        rw [List.drop_zero] at dr
        rw [dr, rdR, e]
      · refine ⟨_, rfl, iteF ⟨⟨_, _, rfl⟩, b5.trans b6, .inr (.inl ⟨m, [], [], Nat.le_refl _, (lanesOf_ok e).2, by show 0 ≤ 128; decide, k6, ?_⟩)⟩⟩
        rw [List.drop_zero] at dr
        conv => lhs; rw [dr]
        rw [rdR, e]
    · rw [dr] at go
      refine ⟨r, j, n, d, lf, ps, fs, .non, rfl, rr, kp, by lia, n16, fun z => by lia, fun _ z => absurd rfl z, fun _ _ => ⟨fun e1 e2 H6 b6 => ?_, fun es e1 er' H6 b6 h6 k6 => ?_, fun g e1 e2 p H6 b6 k6 => ?_⟩⟩
      · refine ⟨_, rfl, iteT ⟨_, rfl, by show 2 ≤ sizeLine; decide, fin H6 b6 ?_⟩⟩
        rw [go, goR, e1]; dsimp only; rw [e2]
      · refine ⟨_, rfl, iteF ⟨⟨_, _, rfl⟩, b5.trans b6, .inr (.inr ⟨n, fs, ps, er', es, by lia, n16, fl, k6, h6, ?_⟩)⟩⟩
        rw [go, goR, e1]
      · by_cases lt : fs.length < 128
        · rw [decide_eq_true lt]
          refine ⟨_, rfl, iteF ⟨⟨_, _, rfl⟩, b5.trans b6, .inr (.inl ⟨n, fs ++ [g], _, by lia, n16, by rw [List.length_append, List.length_singleton]; lia, k6, ?_⟩)⟩⟩
          rw [go, goR, e1]; dsimp only; rw [e2]; dsimp only; rw [if_pos lt]
        · rw [decide_eq_false lt]
          refine ⟨_, rfl, iteT ⟨_, rfl, by show 2 ≤ sizeLine; decide, fin H6 b6 ?_⟩⟩
          rw [go, goR, e1]; dsimp only; rw [e2]; dsimp only; rw [if_neg lt]
    · refine ⟨r, j, n, d, lf, ps, fs, .ref er', rfl, rr, kp, by lia, n16, fun z => by lia, fun _ _ H6 b6 => ?_, fun _ z => by cases z⟩
      refine ⟨_, rfl, iteT ⟨_, rfl, by show 2 ≤ sizeLine; decide, fin H6 b6 ?_⟩⟩
      rw [go, if_neg (by rw [dr]; simp)]
  · rintro σ H4 ⟨⟨v3, v4, rfl⟩, b4, st⟩
    rw [List.length_map] at st
    have l4 := b4 _ _ h3 nld nlf
    have S4 := keepS b4
    rcases st with ⟨j0, kp⟩ | ⟨n, fs, ps, j1, n16, fl, kp, go⟩ | ⟨n, fs, ps, er', es, j1, n16, fl, kp, he, go⟩
    · exact absurd (List.eq_nil_of_length_eq_zero j0) rb.1
    · rw [List.drop_length] at go
      refine ⟨_, rfl, d, _, rfl, kp_e _ _ _ ▸ DGet.k (k := .inr "ends") kp.hd, rfl, _, rfl, ?_⟩
      rw [decide_eq_true rfl]
      refine iteT ⟨_, rfl, l, _, rfl, .inl (SqL.of l4), by show 2 ≤ sizeLine; decide, fun t ht => ?_⟩
      rw [List.length_map]
      refine k t _ (S4.trans (same_new ht _)) ?_
      rw [go]; exact upd_same
    · rw [List.drop_length, if_pos rfl] at go
      refine ⟨_, rfl, d, _, rfl, kp_e _ _ _ ▸ DGet.k (k := .inr "ends") kp.hd, rfl, _, rfl, ?_⟩
      rw [decide_eq_false (fun z => by cases z)]
      refine iteF ⟨_, rfl, d, _, rfl, kp_l _ _ _ ▸ DGet.k (k := .inr "lanes") kp.hd, _, rfl, d, .ref lf, rfl, kp_f _ _ _ ▸ DGet.k (k := .inr "forks") kp.hd, lf, _, rfl, .inl ⟨SqL.of kp.hf, fun fr hfr => ?_⟩⟩
      have s5 := same_new hfr (.tup ps)
      have kp5 := kp.same s5
      refine ⟨_, rfl, d, _, rfl, kp_e _ _ _ ▸ DGet.k (k := .inr "ends") kp5.hd, by show 3 ≤ sizeLine; decide, fun q hq => ?_⟩
      have s6 := same_new hq (.tup [.int (n : Nat), .ref fr, .ref er'])
      refine ⟨by show 2 ≤ sizeLine; decide, fun t ht => ?_⟩
      have s7 := same_new ht (.tup [.str "net", .ref q])
      refine k t _ (((S4.trans s5).trans s6).trans s7) ?_
      rw [go]
      refine ⟨q, fr, er', ps, upd_same, ⟨s7 _ _ upd_same, s7 _ _ (s6 _ _ upd_same), ((kp5.pr.tups (Tups.of s6)).tups (Tups.of s7)), s7 _ _ (s6 _ _ (s5 _ _ he))⟩⟩
end
end K77
end
section
set_option maxHeartbeats 4000001
namespace L2
open PySem
section
variable {X : Cx} {K : PySem.W.Frag} {a o : Expr} {ta : TE} {f : Str} {pos : Pos}
end
section
variable {K : PySem.W.Frag} {C D : Addr} {cd : ClassData} {b : Bool}
theorem kit_same (h : (Value.ref C == Value.ref C) = true) : PySem.W.kitOne K (.ref C) (.ref C) = some true := if_pos h
theorem kitCls_own (c : PySem.W.clsIn K D = some cd) (t : PySem.W.typeIn K (.ref D) = some (.type "type")) (s : PySem.W.mroIn K C (.ref D) = some b) : PySem.W.kitCls K (.ref C) (.ref D) = some b := by
  simp only [PySem.W.kitCls, c, t]
  exact (if_pos rfl).trans s
theorem kit_other (h : (Value.ref C == Value.ref D) = false) (c : PySem.W.clsIn K D = some cd) (t : PySem.W.typeIn K (.ref D) = some (.type "type")) (s : PySem.W.mroIn K C (.ref D) = some b) : PySem.W.kitOne K (.ref C) (.ref D) = some b := by
  unfold PySem.W.kitOne
  rw [h]
  exact kitCls_own c t s
theorem exm_own (z : PySem.W.mroIn K D (.type "BaseException") = some true) (c : PySem.W.clsIn K D = some cd) (t : PySem.W.typeIn K (.ref D) = some (.type "type")) (s : PySem.W.mroIn K C (.ref D) = some b) : PySem.W.exmOne K (.ref C) (.ref D) = some b := by
  unfold PySem.W.exmOne
  rw [show PySem.W.subIn K (.ref D) (.type "BaseException") = some true from z]
  exact (if_pos rfl).trans (kitCls_own c t s)
theorem nsOk_of {N : Addr} {o : Obj} (l : K.lookup N = some o) (h : PySem.W.nsOkIn [(N, o)] N = true) : PySem.W.nsOkIn K N = true := by
  have e : K.lookup N = List.lookup N [(N, o)] := by rw [l]; simp [List.lookup]
  unfold PySem.W.nsOkIn at h ⊢
  rw [e]
  exact h
theorem tail_own (c : PySem.W.clsIn K D = some cd) (o : PySem.W.nsOkIn K cd.ns = true) (i : PySem.W.nsIn K cd.ns "__init__" = some none) : PySem.W.tailIn K bmV (.ref D :: bmV) = true := by
  obtain ⟨x, y, z, l⟩ := cls_at c
  have t : PySem.W.tailIn K bmV bmV = true := rfl
  rw [PySem.W.tailIn, l]
  dsimp only
  rw [o, i, t]
  exact Bool.or_true _
end
end L2
end
section
set_option maxHeartbeats 4000001
namespace K77
open PySem L2 Own Bn
abbrev sFound : Stmt := top 38
def spFound (K : PySem.W.Frag) : Sp := fun vs H Q _ => (∃ x t, vs = [x] ∧ TyOf K H x t ∧ PySem.W.kitOne K t (.type "str") = some false ∧ ∀ r H', Same H H' → TellAt H' r (.inl 0) → Q (.ref r) H') ∨
  ∃ rows : List Str, vs = [.str (Txt.join sNl rows)] ∧ RowsB 10 rows ∧ ∀ r H', Same H H' → TellAt H' r (rdR rows) → Q (.ref r) H'
theorem ty_same {K : PySem.W.Frag} {H H' : Hp} {x : V} {t : Value} (s : Same H H') (h : TyOf K H x t) : TyOf K H' x t := by
  cases h with
  | non => exact .non
  | bl b => exact .bl b
  | int i => exact .int i
  | str z => exact .str z
  | flt z => exact .flt z
  | lst e => exact .lst (s _ _ e)
  | frz e => exact .frz (s _ _ e)
  | tup e => exact .tup (s _ _ e)
  | dK e => exact .dK (s _ _ e)
  | dT e => exact .dT (s _ _ e)
  | _ => constructor <;> first | assumption | exact s _ _ (by assumption)
section
variable {P : Program} {w : World} {K : PySem.W.Frag} {mg : Str → Option Value} {base : Heap}
theorem scFo : FnScope ["_law_thing", "_law_caught", "_law_told", "e"] ["_law_thing"] (defScope sFound) := ⟨rfl, rfl, rfl, by decide +kernel, rfl, by decide +kernel, by decide +kernel⟩
theorem ok_found {f fR C CD CG CN CE L : Addr} {fd dR : FuncData} (F : Fun K "_law_found" "_law_found" sFound f fd) (G : Mgs mg) (UR : Use P w K mg base "read_net" ["text"] 6 spReadZ fR dR) (okX : FnOk P w K mg base (CX1 P w) 6 fR dR ["text"] (spReadZX K C))
    (mL : mg "LaneError" = some (.ref L)) (mV : mg "ValueError" = none) (mD : mg "NoDeed" = some (.ref CD)) (mG : mg "NoGroup" = some (.ref CG)) (mN : mg "NoLine" = some (.ref CN)) (mE : mg "NotEven" = some (.ref CE)) (mT : mg "NoText" = some (.ref C))
    (Z : XIs K C) (xm : PySem.W.exmOne K (.ref C) (.ref L) = some true) (kv : PySem.W.kitOne K (.ref C) (.type "ValueError") = some true) (ka : PySem.W.kitAny K (.ref C) [.ref CD, .ref CG, .ref CN, .ref CE] = some false) (kt : PySem.W.kitOne K (.ref C) (.ref C) = some true) (na : PySem.W.findIn K (.ref C) "row" = some none) : FnOk P w K mg base CX0 7 f fd ["_law_thing"] (spFound K) := by
  refine F.ok scFo (fun vs H Q E h => ?_) (fun cdv A outer s H vs Q E hr h => ?_)
  · rcases h with ⟨x, t, rfl, _⟩ | ⟨rows, rfl, _⟩ <;> rfl
  refine ⟨_, (@pss_cons _ _ _ _ _ (@ps_asg _ _ _ _ _ _ (@pe_tup _ _ _ _ _ (@pa_cons _ _ _ _ _ pe_non (@pa_cons _ _ _ _ _ pe_non pa_nil (by rfl)) (by rfl))) (@pg_tup _ _ _ _ _ _ rfl (@pgs_cons _ _ _ _ _ (@pg_name _ _ 1 _ scFo.nd rfl (Or.inl rfl) (by first | exact .inl rfl | exact .inr rfl | assumption)) (@pgs_cons _ _ _ _ _ (@pg_name _ _ 2 _ scFo.nd rfl (Or.inl rfl) (by first | exact .inl rfl | exact .inr rfl | assumption)) pgs_nil (by rfl)) (by rfl)) (by rfl) (by rfl)) (by rfl) (by rfl) (by rfl)) (@pss_cons _ _ _ _ _ (ps_tryS (j := 2) (i := 3) (L := L) ⟨⟨rfl, rfl, rfl⟩, fun _ _ z => z⟩ (FnOk.or UR.ok.lift okX) hr (by rfl) UR.m UR.kp UR.b (@pa_cons _ _ _ _ _ (@pv _ 0 _ _ (by rfl) (by first | exact Or.inl rfl | exact Or.inr (Or.inl rfl) | exact Or.inr (Or.inr rfl)) (by decide) (by decide)) pa_nil (by rfl)) ⟨rfl, mL, rfl⟩ scFo.nd rfl rfl rfl rfl (fun e => @pss_one _ _ _ (@ps_set _ _ 1 _ _ _ _ scFo.nd rfl (Or.inl rfl) (@pv _ 3 _ _ (by rfl) (by first | exact Or.inl rfl | exact Or.inr (Or.inl rfl) | exact Or.inr (Or.inr rfl)) (by decide) (by decide)) (by rfl) (by first | exact .inl rfl | exact .inr rfl | assumption)))) (@pss_cons _ _ _ _ _ (@ps_if _ _ _ _ _ _ _ _ (@pt_cmpR _ _ _ _ _ _ _ _ op_isN (@pv _ 1 _ _ (by rfl) (by first | exact Or.inl rfl | exact Or.inr (Or.inl rfl) | exact Or.inr (Or.inr rfl)) (by decide) (by decide)) pe_non (by rfl)) (@pss_one _ _ _ (@ps_ret _ _ _ _ (@pe_tup _ _ _ _ _ (@pa_cons _ _ _ _ _ pe_str (@pa_cons _ _ _ _ _ (@pv _ 2 _ _ (by rfl) (by first | exact Or.inl rfl | exact Or.inr (Or.inl rfl) | exact Or.inr (Or.inr rfl)) (by decide) (by decide)) pa_nil (by rfl)) (by rfl))))) pss_nil) (@pss_cons _ _ _ _ _ (@ps_if _ _ _ _ _ _ _ _ (PW.pt (@pw_or _ _ _ _ _ _ _ (@pt_not _ _ _ _ (@pt_truth _ _ _ (@pe_callB _ _ _ _ _ _ _ _ _ call_isiX (by rfl) G.isi (by rfl) (@pa_cons _ _ _ _ _ (@pv _ 1 _ _ (by rfl) (by first | exact Or.inl rfl | exact Or.inr (Or.inl rfl) | exact Or.inr (Or.inr rfl)) (by decide) (by decide)) (@pa_cons _ _ _ _ _ (@pe_bltn _ _ (.ty "ValueError") _ _ (by rfl) mV (by rfl) (by rfl) (by decide) (by decide)) pa_nil (by rfl)) (by rfl)) (by decide) (by decide) (by rfl) (by rfl)) (fun _ => rfl))) (@pw_or1 _ _ _ _ (@pt_truth _ _ _ (@pe_callB _ _ _ _ _ _ _ _ _ call_isiX (by rfl) G.isi (by rfl) (@pa_cons _ _ _ _ _ (@pv _ 1 _ _ (by rfl) (by first | exact Or.inl rfl | exact Or.inr (Or.inl rfl) | exact Or.inr (Or.inr rfl)) (by decide) (by decide)) (@pa_cons _ _ _ _ _ (@pe_tup _ _ _ _ _ (@pa_cons _ _ _ _ _ (@pe_glob _ _ (.ref CD) _ _ (by rfl) mD (by rfl) (by decide)) (@pa_cons _ _ _ _ _ (@pe_glob _ _ (.ref CG) _ _ (by rfl) mG (by rfl) (by decide)) (@pa_cons _ _ _ _ _ (@pe_glob _ _ (.ref CN) _ _ (by rfl) mN (by rfl) (by decide)) (@pa_cons _ _ _ _ _ (@pe_glob _ _ (.ref CE) _ _ (by rfl) mE (by rfl) (by decide)) pa_nil (by rfl)) (by rfl)) (by rfl)) (by rfl))) pa_nil (by rfl)) (by rfl)) (by decide) (by decide) (by rfl) (by rfl)) (fun _ => rfl))))) (@pss_one _ _ _ (@ps_ret _ _ _ _ (@pe_tup _ _ _ _ _ (@pa_cons _ _ _ _ _ pe_str (@pa_cons _ _ _ _ _ pe_int pa_nil (by rfl)) (by rfl))))) pss_nil) (@pss_one _ _ _ (@ps_ret _ _ _ _ (@pe_ifExp _ _ _ _ _ _ _ _ (@pt_truth _ _ _ (@pe_callB _ _ _ _ _ _ _ _ _ call_isiX (by rfl) G.isi (by rfl) (@pa_cons _ _ _ _ _ (@pv _ 1 _ _ (by rfl) (by first | exact Or.inl rfl | exact Or.inr (Or.inl rfl) | exact Or.inr (Or.inr rfl)) (by decide) (by decide)) (@pa_cons _ _ _ _ _ (@pe_glob _ _ (.ref C) _ _ (by rfl) mT (by rfl) (by decide)) pa_nil (by rfl)) (by rfl)) (by decide) (by decide) (by rfl) (by rfl)) (fun _ => rfl)) (@pe_tup _ _ _ _ _ (@pa_cons _ _ _ _ _ pe_str (@pa_cons _ _ _ _ _ (pe_xfld (@pv _ 1 _ _ (by rfl) (by first | exact Or.inl rfl | exact Or.inr (Or.inl rfl) | exact Or.inr (Or.inr rfl)) (by decide) (by decide))) pa_nil (by rfl)) (by rfl))) (@pe_tup _ _ _ _ _ (@pa_cons _ _ _ _ _ pe_str (@pa_cons _ _ _ _ _ pe_int pa_nil (by rfl)) (by rfl)))))))))), ?_⟩
  refine ⟨by show 2 ≤ sizeLine; decide, fun t0 ht0 => ⟨t0, _, rfl, SqT.of upd_same, rfl, _, _, rfl, _, _, rfl, rfl, ?_⟩⟩
  have s0 := same_new ht0 (.tup [.non, .non])
  generalize L2.upd H t0 (.tup [.non, .non]) = H0 at s0 ⊢
  rcases h with ⟨x, t, rfl, ty, kn, k⟩ | ⟨rows, rfl, rb, k⟩
  · refine ⟨_, rfl, .inr (.inl ⟨x, t, rfl, ty_same s0 ty, kn, fun dx hdx => ?_⟩)⟩
    have s1 : Same H0 H0 := Same.refl H0
    refine ⟨C, rfl, xm, fun e he => ?_⟩
    have s2 := same_new hdx (.xd [("row", .int (0 : Nat))])
    have s3 := same_new he (excO e C (some dx))
    have ed := s3 _ _ (upd_same (H := H0) (a := dx) (o := .xd [("row", .int (0 : Nat))]))
    have ee : L2.upd (L2.upd H0 dx (.xd [("row", .int (0 : Nat))])) e (excO e C (some dx)) e = some (excO e C (some dx)) := upd_same
    have u3 := (s1.trans s2).trans s3
    generalize L2.upd (L2.upd H0 dx (.xd [("row", .int (0 : Nat))])) e (excO e C (some dx)) = H3 at ed ee u3 ⊢
    refine ⟨_, rfl, ?_⟩
    refine ⟨_, rfl, rfl, _, rfl, ?_⟩
    rw [decide_eq_false (fun z => by cases z)]
    refine iteF ⟨_, rfl, e, C, dx, _, _, true, rfl, Z, ee, ed, .inl ⟨"ValueError", rfl, kv⟩, true, rfl, iteF ?_⟩
    refine ⟨_, rfl, by show 4 ≤ sizeLine; decide, fun tp ht => ?_⟩
    have s4 := same_new ht (.tup [.ref CD, .ref CG, .ref CN, .ref CE])
    have ee4 := s4 _ _ ee
    have ed4 := s4 _ _ ed
    refine ⟨e, C, dx, _, _, false, rfl, Z, ee4, ed4, .inr (.inr ⟨tp, [CD, CG, CN, CE], rfl, upd_same, ka⟩), false, rfl, iteF ?_⟩
    refine ⟨_, rfl, e, C, dx, _, _, true, rfl, Z, ee4, ed4, .inr (.inl ⟨C, rfl, kt⟩), true, rfl, iteT ?_⟩
    refine ⟨_, rfl, e, C, dx, _, _, rfl, Z, ee4, ed4, na, rfl, by show 2 ≤ sizeLine; decide, fun r hr' => ?_⟩
    exact k r _ ((s0.trans (u3.trans s4)).trans (same_new hr' _)) upd_same
  cases eN : rdR rows with
  | inr N =>
    rw [eN] at k
    refine ⟨_, rfl, .inl ⟨rows, rfl, rb, N, eN, fun r fr er ps H1 s1 na1 => ?_⟩⟩
    refine ⟨_, rfl, rfl, _, rfl, ?_⟩
    rw [decide_eq_true rfl]
    refine iteT ⟨_, rfl, by show 2 ≤ sizeLine; decide, fun t ht => ?_⟩
    have s2 := same_new ht (.tup [.str "net", .ref r])
    exact k t _ ((s0.trans s1).trans s2) ⟨r, fr, er, ps, upd_same, na1.tups (Tups.of s2)⟩
  | inl m =>
    rw [eN] at k
    refine ⟨_, rfl, .inr (.inr ⟨rows, rfl, rb, m, eN, fun H1 dx s1 hdx => ?_⟩)⟩
    refine ⟨C, rfl, xm, fun e he => ?_⟩
    have s2 := same_new hdx (.xd [("row", .int (m : Nat))])
    have s3 := same_new he (excO e C (some dx))
    have ed := s3 _ _ (upd_same (H := H1) (a := dx) (o := .xd [("row", .int (m : Nat))]))
    have ee : L2.upd (L2.upd H1 dx (.xd [("row", .int (m : Nat))])) e (excO e C (some dx)) e = some (excO e C (some dx)) := upd_same
    have u3 := (s1.trans s2).trans s3
    generalize L2.upd (L2.upd H1 dx (.xd [("row", .int (m : Nat))])) e (excO e C (some dx)) = H3 at ed ee u3 ⊢
    refine ⟨_, rfl, ?_⟩
    refine ⟨_, rfl, rfl, _, rfl, ?_⟩
    rw [decide_eq_false (fun z => by cases z)]
    refine iteF ⟨_, rfl, e, C, dx, _, _, true, rfl, Z, ee, ed, .inl ⟨"ValueError", rfl, kv⟩, true, rfl, iteF ?_⟩
    refine ⟨_, rfl, by show 4 ≤ sizeLine; decide, fun tp ht => ?_⟩
    have s4 := same_new ht (.tup [.ref CD, .ref CG, .ref CN, .ref CE])
    have ee4 := s4 _ _ ee
    have ed4 := s4 _ _ ed
    refine ⟨e, C, dx, _, _, false, rfl, Z, ee4, ed4, .inr (.inr ⟨tp, [CD, CG, CN, CE], rfl, upd_same, ka⟩), false, rfl, iteF ?_⟩
    refine ⟨_, rfl, e, C, dx, _, _, true, rfl, Z, ee4, ed4, .inr (.inl ⟨C, rfl, kt⟩), true, rfl, iteT ?_⟩
    refine ⟨_, rfl, e, C, dx, _, _, rfl, Z, ee4, ed4, na, rfl, by show 2 ≤ sizeLine; decide, fun r hr' => ?_⟩
    exact k r _ ((s0.trans (u3.trans s4)).trans (same_new hr' _)) upd_same
end
end K77
end
section
set_option maxHeartbeats 4000001
namespace K77
open PySem L2 Own Bn
theorem eq3_num {H : Hp} {n : Nat} {x : V} (h : numT x = true) : Eq3 H n x x := by
  cases n with
  | zero => exact ⟨rfl, h⟩
  | succ n => exact .inl ⟨rfl, h⟩
theorem eq3_flats {H : Hp} {n : Nat} {a b : Addr} {xs : List V} (h1 : H a = some (.tup xs)) (h2 : H b = some (.tup xs)) (l : xs.length ≤ 1000) (f : ∀ x ∈ xs, numT x = true) : Eq3 H (n + 1) (.ref a) (.ref b) :=
  .inr ⟨a, b, xs, xs, rfl, rfl, h1, h2, rfl, l, fun i u v hu hv => by
    rw [hu] at hv
    obtain rfl := Option.some.inj hv
    exact eq3_num (f u (List.mem_of_getElem? hu))⟩
theorem eq3_net {H : Hp} {r fr er r' fr' er' : Addr} {ps ps' : List V} {N : Nt} (ok : N.Ok) (na : NetAt H r fr er ps N) (nb : NetAt H r' fr' er' ps' N) : Eq3 H 3 (.ref r) (.ref r') := by
  have fm := ok.fm
  have pl := na.prs.len
  have el : N.ends.length = N.lanes := by rw [ok.en.length_eq, List.length_range]
  have l16 := ok.l16
  refine .inr ⟨r, r', _, _, rfl, rfl, na.net, nb.net, rfl, by show 3 ≤ 1000; decide, fun i u v hu hv => ?_⟩
  rcases i with _ | _ | _ | i
  · cases hu; cases hv; exact eq3_num rfl
  · cases hu; cases hv
    refine .inr ⟨fr, fr', ps, ps', rfl, rfl, na.forks, nb.forks, by rw [na.prs.len, nb.prs.len], by lia, fun j x y hx hy => ?_⟩
    obtain ⟨g, f, rfl, ef, hg⟩ := na.prs.get hx
    obtain ⟨g', f', rfl, ef', hg'⟩ := nb.prs.get hy
    rw [ef] at ef'
    obtain rfl := Option.some.inj ef'
    refine eq3_flats hg hg' (by show 2 ≤ 1000; decide) fun x hx => ?_
    simp only [List.mem_cons, List.mem_nil_iff, or_false] at hx
    rcases hx with rfl | rfl <;> rfl
  · cases hu; cases hv
    refine eq3_flats na.ends nb.ends (by unfold nums; rw [List.length_map]; lia) fun x hx => ?_
    obtain ⟨i, _, rfl⟩ := List.mem_map.mp hx
    rfl
  · simp at hu
theorem eq3_tell {H : Hp} {r r' : Addr} {x : Nat ⊕ Nt} (ok : ∀ N, x = .inr N → N.Ok) (a : TellAt H r x) (b : TellAt H r' x) : Eq3 H 4 (.ref r) (.ref r') := by
  cases x with
  | inl k =>
    refine eq3_flats a b (by show 2 ≤ 1000; decide) fun y hy => ?_
    simp only [List.mem_cons, List.mem_nil_iff, or_false] at hy
    rcases hy with rfl | rfl <;> rfl
  | inr N =>
    obtain ⟨q, fr, er, ps, h1, na⟩ := a
    obtain ⟨q', fr', er', ps', h2, nb⟩ := b
    refine .inr ⟨r, r', _, _, rfl, rfl, h1, h2, rfl, by show 2 ≤ 1000; decide, fun i u v hu hv => ?_⟩
    rcases i with _ | _ | i
    · cases hu; cases hv; exact eq3_num rfl
    · cases hu; cases hv; exact eq3_net (ok N rfl) na nb
    · simp at hu
theorem TellAt.same {H H' : Hp} {r : Addr} {x : Nat ⊕ Nt} (s : Same H H') (a : TellAt H r x) : TellAt H' r x := by
  cases x with
  | inl k => exact s _ _ a
  | inr N =>
    obtain ⟨q, fr, er, ps, h1, na⟩ := a
    exact ⟨q, fr, er, ps, s _ _ h1, na.tups (Tups.of s)⟩
theorem goR_ok (n : Nat) (n1 : 1 ≤ n) (n16 : n ≤ 16) : ∀ (rs : List Str) (acc : List (Nat × Nat)) (k : Nat) (N : Nt), acc.length ≤ 128 → (∀ f ∈ acc, f.1 < n ∧ f.2 < n ∧ f.1 ≠ f.2) → goR n acc k rs = .inr N → N.Ok
  | [], _, _, _, _, _, h => by cases h
  | r :: rs, acc, k, N, al, af, h => by
    rw [goR] at h
    cases e : endsOf n r with
    | some es =>
      rw [e] at h
      dsimp only at h
      split at h
      · obtain rfl := Sum.inr.inj h
        exact ⟨n1, n16, al, af, (endsOf_perm e).1⟩
      · cases h
    | none =>
      rw [e] at h
      dsimp only at h
      cases g : forkOf n r with
      | some f =>
        rw [g] at h
        dsimp only at h
        split at h
        · refine goR_ok n n1 n16 rs _ _ N (by rw [List.length_append, List.length_singleton]; lia) (fun x hx => ?_) h
          rcases List.mem_append.mp hx with q | q
          · exact af x q
          · rw [List.mem_singleton.mp q]; exact (forkO_ok g).2
        · cases h
      | none => rw [g] at h; cases h
theorem rdR_ok {rows : List Str} {N : Nt} (h : rdR rows = .inr N) : N.Ok := by
  cases rows with
  | nil => cases h
  | cons r rs =>
    rw [rdR] at h
    cases e : lanesOf r with
    | none => rw [e] at h; cases h
    | some n =>
      rw [e] at h
      obtain ⟨a, b⟩ := lanesOf_ok e
      exact goR_ok n a b rs [] 1 N (by decide) (fun f hf => by cases hf) h
end K77
end
section
set_option maxHeartbeats 4000001
namespace K77
open PySem L2 Own Bn
abbrev sLayers : Stmt := top 19
theorem noughts (n : Nat) : (List.replicate n [V.int 0]).flatten = (List.replicate n (0 : Int)).map V.int := by
  induction n with
  | zero => rfl
  | succ n ih => rw [List.replicate_succ, List.flatten_cons, ih, List.replicate_succ]; rfl
def spLayers : Sp := fun vs H Q _ => ∃ r fr er ps N, vs = [.ref r] ∧ Nt.Ok N ∧ NetAt H r fr er ps N ∧ ∀ p H', Same H H' → H' p = some (.tup ((layers N).map V.int)) → Q (.ref p) H'
section
variable {P : Program} {w : World} {K : PySem.W.Frag} {mg : Str → Option Value} {base : Heap}
theorem scLy : FnScope ["net", "lanes", "forks", "ends", "reached", "found", "one", "other", "layer"] ["net"] (defScope sLayers) := ⟨rfl, rfl, rfl, by decide +kernel, rfl, by decide +kernel, by decide +kernel⟩
theorem ok_layers {f : Addr} {fd : FuncData} (F : Fun K "layers" "layers" sLayers f fd) (G : Mgs mg) : FnOk P w K mg base CX0 1 f fd ["net"] spLayers := by
  refine F.ok scLy (fun vs H Q E h => ?_) (fun cdv A outer s H vs Q E hr h => ?_)
  · obtain ⟨r, fr, er, ps, N, rfl, _⟩ := h
    rfl
  obtain ⟨r, fr, er, ps, N, rfl, ok, na, k⟩ := h
  refine ⟨_, (@pss_cons _ _ _ _ _ (@ps_asg _ _ _ _ _ _ (@pv _ 0 _ _ (by rfl) (by first | exact Or.inl rfl | exact Or.inr (Or.inl rfl) | exact Or.inr (Or.inr rfl)) (by decide) (by decide)) (@pg_tup _ _ _ _ _ _ rfl (@pgs_cons _ _ _ _ _ (@pg_name _ _ 1 _ scLy.nd rfl (Or.inl rfl) (by first | exact .inl rfl | exact .inr rfl | assumption)) (@pgs_cons _ _ _ _ _ (@pg_name _ _ 2 _ scLy.nd rfl (Or.inl rfl) (by first | exact .inl rfl | exact .inr rfl | assumption)) (@pgs_cons _ _ _ _ _ (@pg_name _ _ 3 _ scLy.nd rfl (Or.inl rfl) (by first | exact .inl rfl | exact .inr rfl | assumption)) pgs_nil (by rfl)) (by rfl)) (by rfl)) (by rfl) (by rfl)) (by rfl) (by rfl) (by rfl)) (@pss_cons _ _ _ _ _ (@ps_set _ _ 4 _ _ _ _ scLy.nd rfl (Or.inl rfl) (@pe_op _ _ _ _ _ _ _ _ op_rep (@pe_lst _ _ _ _ (@pa_cons _ _ _ _ _ pe_int pa_nil (by rfl))) (@pv _ 1 _ _ (by rfl) (by first | exact Or.inl rfl | exact Or.inr (Or.inl rfl) | exact Or.inr (Or.inr rfl)) (by decide) (by decide))) (by rfl) (by first | exact .inl rfl | exact .inr rfl | assumption)) (@pss_cons _ _ _ _ _ (@ps_set _ _ 5 _ _ _ _ scLy.nd rfl (Or.inl rfl) (@pe_lst _ _ _ _ pa_nil) (by rfl) (by first | exact .inl rfl | exact .inr rfl | assumption)) (@pss_cons _ _ _ _ _ (@ps_for _ _ _ _ _ _ _ _ PassesOwn.never rfl (@pi_tup _ _ _ _ (@pv _ 2 _ _ (by rfl) (by first | exact Or.inl rfl | exact Or.inr (Or.inl rfl) | exact Or.inr (Or.inr rfl)) (by decide) (by decide))) (@pg_tup _ _ _ _ _ _ rfl (@pgs_cons _ _ _ _ _ (@pg_name _ _ 6 _ scLy.nd rfl (Or.inl rfl) (by first | exact .inl rfl | exact .inr rfl | assumption)) (@pgs_cons _ _ _ _ _ (@pg_name _ _ 7 _ scLy.nd rfl (Or.inl rfl) (by first | exact .inl rfl | exact .inr rfl | assumption)) pgs_nil (by rfl)) (by rfl)) (by rfl) (by rfl)) (@pss_cons _ _ _ _ _ (@ps_set _ _ 8 _ _ _ _ scLy.nd rfl (Or.inl rfl) (@pe_op _ _ _ _ _ _ _ _ op_add pe_int (@pe_callB _ _ _ _ _ _ _ _ _ (call_max2 rfl) (by rfl) G.max (by rfl) (@pa_cons _ _ _ _ _ (@pe_ix _ _ _ _ _ _ _ ix_list (@pv _ 4 _ _ (by rfl) (by first | exact Or.inl rfl | exact Or.inr (Or.inl rfl) | exact Or.inr (Or.inr rfl)) (by decide) (by decide)) (@pv _ 6 _ _ (by rfl) (by first | exact Or.inl rfl | exact Or.inr (Or.inl rfl) | exact Or.inr (Or.inr rfl)) (by decide) (by decide)) (fun _ _ => rfl)) (@pa_cons _ _ _ _ _ (@pe_ix _ _ _ _ _ _ _ ix_list (@pv _ 4 _ _ (by rfl) (by first | exact Or.inl rfl | exact Or.inr (Or.inl rfl) | exact Or.inr (Or.inr rfl)) (by decide) (by decide)) (@pv _ 7 _ _ (by rfl) (by first | exact Or.inl rfl | exact Or.inr (Or.inl rfl) | exact Or.inr (Or.inr rfl)) (by decide) (by decide)) (fun _ _ => rfl)) pa_nil (by rfl)) (by rfl)) (by decide) (by decide) (by rfl) (by rfl))) (by rfl) (by first | exact .inl rfl | exact .inr rfl | assumption)) (@pss_cons _ _ _ _ _ (@ps_asg _ _ _ _ _ _ (@pv _ 8 _ _ (by rfl) (by first | exact Or.inl rfl | exact Or.inr (Or.inl rfl) | exact Or.inr (Or.inr rfl)) (by decide) (by decide)) (@pg_sub _ _ _ _ _ _ _ (@pv _ 4 _ _ (by rfl) (by first | exact Or.inl rfl | exact Or.inr (Or.inl rfl) | exact Or.inr (Or.inr rfl)) (by decide) (by decide)) (@pv _ 6 _ _ (by rfl) (by first | exact Or.inl rfl | exact Or.inr (Or.inl rfl) | exact Or.inr (Or.inr rfl)) (by decide) (by decide)) set_list (by intro _; rfl)) (by rfl) (by rfl) (by rfl)) (@pss_cons _ _ _ _ _ (@ps_asg _ _ _ _ _ _ (@pv _ 8 _ _ (by rfl) (by first | exact Or.inl rfl | exact Or.inr (Or.inl rfl) | exact Or.inr (Or.inr rfl)) (by decide) (by decide)) (@pg_sub _ _ _ _ _ _ _ (@pv _ 4 _ _ (by rfl) (by first | exact Or.inl rfl | exact Or.inr (Or.inl rfl) | exact Or.inr (Or.inr rfl)) (by decide) (by decide)) (@pv _ 7 _ _ (by rfl) (by first | exact Or.inl rfl | exact Or.inr (Or.inl rfl) | exact Or.inr (Or.inr rfl)) (by decide) (by decide)) set_list (by intro _; rfl)) (by rfl) (by rfl) (by rfl)) (@pss_one _ _ _ (@ps_expr _ _ _ _ (@pe_bm _ _ _ _ _ _ _ _ _ _ _ _ PySem.F.plainAttrs_list PySem.F.slot_list_append PySem.F.type_list_append mt_append (@pv _ 5 _ _ (by rfl) (by first | exact Or.inl rfl | exact Or.inr (Or.inl rfl) | exact Or.inr (Or.inr rfl)) (by decide) (by decide)) (@pa_cons _ _ _ _ _ (@pv _ 8 _ _ (by rfl) (by first | exact Or.inl rfl | exact Or.inr (Or.inl rfl) | exact Or.inr (Or.inr rfl)) (by decide) (by decide)) pa_nil (by rfl)) (by rfl) (by rfl) (by rfl) (by rfl) (by rfl)) (by rfl)))))) (by intro _; rfl)) (@pss_one _ _ _ (@ps_ret _ _ _ _ (@pe_callTy _ _ _ _ _ _ _ _ _ call_tuple_of (by rfl) G.tuple (by rfl) (@pa_cons _ _ _ _ _ (@pv _ 5 _ _ (by rfl) (by first | exact Or.inl rfl | exact Or.inr (Or.inl rfl) | exact Or.inr (Or.inr rfl)) (by decide) (by decide)) pa_nil (by rfl)) (by decide) (by decide) (by rfl) (by rfl)))))))), ?_⟩
  have l1 := ok.l1
  have l16 := ok.l16
  have fm := ok.fm
  have pl := na.prs.len
  have tn : ((N.lanes : Nat) : Int).toNat = N.lanes := by lia
  refine ⟨_, rfl, r, _, rfl, SqT.of na.net, rfl, _, _, rfl, _, _, rfl, _, _, rfl, rfl, ?_⟩
  refine ⟨(by show 1 ≤ sizeLine; decide), fun p1 hp1 => ?_⟩
  have s1 := same_new hp1 (.lst [.int 0])
  refine ⟨_, rfl, p1, N.lanes, _, rfl, rfl, upd_same, by lia, by lia, by show 1 * _ ≤ sizeLine; rw [sizeLine_eq]; lia, fun lr hlr => ?_⟩
  have s2 := s1.trans (same_new hlr (.lst (List.replicate ((N.lanes : Int)).toNat [V.int 0]).flatten))
  have hlr0 : H lr = none := by
    cases z : H lr with
    | none => rfl
    | some o => exact absurd (s1 _ _ z) (by rw [hlr]; exact fun w => nomatch w)
  refine ⟨(by show 0 ≤ sizeLine; decide), fun lf hlf => ?_⟩
  have s3 := s2.trans (same_new hlf (.lst []))
  have hlf0 : H lf = none := by
    cases z : H lf with
    | none => rfl
    | some o => exact absurd (s2 _ _ z) (by rw [hlf]; exact fun w => nomatch w)
  have nrf : lr ≠ lf := ne_of_none upd_same hlf
  refine ⟨_, rfl, fr, rfl, ⟨_, SqT.of (s3 _ _ na.forks)⟩, ?_⟩
  refine for_tup (K := K) (a := fr) (xs := ps) (fun i σ H2 => (∃ v6 v7 v8, σ = [some (.ref r), some (.int N.lanes), some (.ref fr), some (.ref er), some (.ref lr), some (.ref lf), v6, v7, v8]) ∧ Same H H2 ∧ H2 lr = some (.lst ((lay N.lanes (N.forks.take i)).1.map V.int)) ∧ H2 lf = some (.lst ((lay N.lanes (N.forks.take i)).2.map V.int)))
    ⟨⟨_, _, _, rfl⟩, s3, by rw [upd_ne nrf, upd_same, tn, noughts]; rfl, upd_same⟩ (fun i σ H2 _ q => SqT.of (q.2.1 _ _ na.forks)) ?_ ?_
  · rintro i p σ H2 hp ⟨⟨v6, v7, v8, rfl⟩, s4, h1, h2⟩
    obtain ⟨a, g, rfl, eg, ha⟩ := (na.prs.tups (Tups.of s4)).get hp
    have okg := ok.fk g (List.mem_of_getElem? eg)
    have ig : i < N.forks.length := (List.getElem?_eq_some_iff.mp eg).1
    have ln := lay_lens (n := N.lanes) i N.forks (by lia)
    have lx := lay_take (n := N.lanes) eg
    generalize lay N.lanes (N.forks.take i) = st at *
    refine ⟨a, _, rfl, SqT.of ha, rfl, _, _, rfl, _, _, rfl, rfl, ?_⟩
    refine ⟨_, rfl, _, rfl, lr, _, _, _, rfl, rfl, SqL.of h1, at_int (by lia), _, rfl, _, rfl, lr, _, _, _, rfl, rfl, SqL.of h1, at_int (by lia), _, _, rfl, _, _, rfl, rfl, ?_⟩
    refine ⟨_, rfl, _, rfl, _, rfl, lr, _, _, g.1, rfl, rfl, h1, ix_at (by rw [List.length_map]; lia), ?_⟩
    refine ⟨_, rfl, _, rfl, _, rfl, lr, _, _, g.2, rfl, rfl, upd_same, ix_at (by rw [List.length_set, List.length_map]; lia), ?_⟩
    have h3 : ∀ x y, L2.upd (L2.upd H2 lr x) lr y lf = some (.lst (st.2.map V.int)) := fun x y => by rw [upd_ne nrf.symm, upd_ne nrf.symm]; exact h2
    refine ⟨_, rfl, .inl ⟨rfl, _, SqL.of (h3 _ _)⟩, _, rfl, lf, _, _, rfl, rfl, h3 _ _, by rw [List.length_map, ln.2]; exact Nat.lt_of_lt_of_le (show i < 1000 by lia) (by decide), ⟨_, _, _, rfl⟩, fun b o e => ?_, ?_, ?_⟩
    · rw [upd_ne (ne_of_none e hlf0), upd_ne (ne_of_none e hlr0), upd_ne (ne_of_none e hlr0)]; exact s4 b o e
    · rw [upd_ne nrf, upd_same, lx]
      unfold layStep
      rw [set_ints, set_ints]; rfl
    · rw [upd_same, lx]
      unfold layStep
      rw [List.map_append]; rfl
  · rintro σ H2 ⟨⟨v6, v7, v8, rfl⟩, s4, h1, h2⟩
    rw [pl, List.take_length] at h2
    exact ⟨_, rfl, lf, _, rfl, .inl ⟨SqL.of h2, fun q hq => k q _ (s4.trans (same_new hq _)) upd_same⟩⟩
end
end K77
end
section
set_option maxHeartbeats 4000001
namespace K77
open PySem L2 Own Bn
abbrev sPlain : Stmt := top 20
def spPlain : Sp := fun vs H Q _ => ∃ r fr er ps N, vs = [.ref r] ∧ Nt.Ok N ∧ N.forks.length ≤ 63 ∧ NetAt H r fr er ps N ∧ ∀ r' fr' ps' H', Same H H' → NetAt H' r' fr' er ps' (plainN N) → Q (.ref r') H'
section
variable {P : Program} {w : World} {K : PySem.W.Frag} {mg : Str → Option Value} {base : Heap}
theorem scPl : FnScope ["net", "lanes", "forks", "ends"] ["net"] (defScope sPlain) := ⟨rfl, rfl, rfl, by decide +kernel, rfl, by decide +kernel, by decide +kernel⟩
theorem ok_plain {f fY : Addr} {fd dY : FuncData} (F : Fun K "plain" "plain" sPlain f fd) (G : Mgs mg) (UY : Use P w K mg base "layers" ["net"] 1 spLayers fY dY) : FnOk P w K mg base CX0 2 f fd ["net"] spPlain := by
  refine F.ok scPl (fun vs H Q E h => ?_) (fun cdv A outer s H vs Q E hr h => ?_)
  · obtain ⟨r, fr, er, ps, N, rfl, _⟩ := h
    rfl
  obtain ⟨r, fr, er, ps, N, rfl, ok, few, na, k⟩ := h
  refine ⟨_, (@pss_cons _ _ _ _ _ (@ps_asg _ _ _ _ _ _ (@pv _ 0 _ _ (by rfl) (by first | exact Or.inl rfl | exact Or.inr (Or.inl rfl) | exact Or.inr (Or.inr rfl)) (by decide) (by decide)) (@pg_tup _ _ _ _ _ _ rfl (@pgs_cons _ _ _ _ _ (@pg_name _ _ 1 _ scPl.nd rfl (Or.inl rfl) (by first | exact .inl rfl | exact .inr rfl | assumption)) (@pgs_cons _ _ _ _ _ (@pg_name _ _ 2 _ scPl.nd rfl (Or.inl rfl) (by first | exact .inl rfl | exact .inr rfl | assumption)) (@pgs_cons _ _ _ _ _ (@pg_name _ _ 3 _ scPl.nd rfl (Or.inl rfl) (by first | exact .inl rfl | exact .inr rfl | assumption)) pgs_nil (by rfl)) (by rfl)) (by rfl)) (by rfl) (by rfl)) (by rfl) (by rfl) (by rfl)) (@pss_one _ _ _ (@ps_ret _ _ _ _ (@pe_tup _ _ _ _ _ (@pa_cons _ _ _ _ _ (@pv _ 1 _ _ (by rfl) (by first | exact Or.inl rfl | exact Or.inr (Or.inl rfl) | exact Or.inr (Or.inr rfl)) (by decide) (by decide)) (@pa_cons _ _ _ _ _ (@pe_callTy _ _ _ _ _ _ _ _ _ call_tuple_of (by rfl) G.tuple (by rfl) (@pa_cons _ _ _ _ _ (@pe_lc _ _ _ _ none _ _ _ (gTup K 2 (gCons (gName 0) (gCons (gName 1) gNil))) _ _ ["layer", "fork"] [none, none] rfl (@pi_list _ _ _ _ (@pe_sortZip _ _ _ _ _ _ _ _ false false (by rfl) G.sorted (by rfl) G.zip rfl hr.units (@pa_cons _ _ _ _ _ (@pe_call _ _ _ _ _ _ _ _ _ _ _ _ _ _ _ _ UY.ok hr (by rfl) UY.m UY.kp UY.b .nil pass0 (@pa_cons _ _ _ _ _ (@pv _ 0 _ _ (by rfl) (by first | exact Or.inl rfl | exact Or.inr (Or.inl rfl) | exact Or.inr (Or.inr rfl)) (by decide) (by decide)) pa_nil (by rfl)) (by decide) (by rfl) (by rfl)) (@pa_cons _ _ _ _ _ (@pv _ 2 _ _ (by rfl) (by first | exact Or.inl rfl | exact Or.inr (Or.inl rfl) | exact Or.inr (Or.inr rfl)) (by decide) (by decide)) pa_nil (by rfl)) (by rfl)) (by rfl) (by rfl) (by rfl))) (CapOk.of (by kernel_rfl)) (fun _ _ _ _ _ => (@pg_tup _ _ _ _ _ _ rfl (@pgs_cons _ _ _ _ _ (@pg_name _ _ 0 _ (show (["layer", "fork"] : List Str).Nodup from by decide +kernel) rfl (Or.inl rfl) (Or.inr rfl)) (@pgs_cons _ _ _ _ _ (@pg_name _ _ 1 _ (show (["layer", "fork"] : List Str).Nodup from by decide +kernel) rfl (Or.inl rfl) (Or.inr rfl)) pgs_nil (by rfl)) (by rfl)) (by rfl) (by rfl))) (fun _ _ _ _ _ => pt_none) (fun _ _ _ _ _ => (@pv _ 1 _ _ (by rfl) (by first | exact Or.inl rfl | exact Or.inr (Or.inl rfl) | exact Or.inr (Or.inr rfl)) (by decide) (by decide))) (by intro _; rfl)) pa_nil (by rfl)) (by decide) (by decide) (by rfl) (by rfl)) (@pa_cons _ _ _ _ _ (@pv _ 3 _ _ (by rfl) (by first | exact Or.inl rfl | exact Or.inr (Or.inl rfl) | exact Or.inr (Or.inr rfl)) (by decide) (by decide)) pa_nil (by rfl)) (by rfl)) (by rfl)))))), ?_⟩
  have fm := ok.fm
  have pl := na.prs.len
  have ll := layers_len N
  refine ⟨_, rfl, r, _, rfl, SqT.of na.net, rfl, _, _, rfl, _, _, rfl, _, _, rfl, rfl, ?_⟩
  refine ⟨_, rfl, _, rfl, r, fr, er, ps, N, rfl, ok, na, fun p H1 s1 hp => ?_⟩
  have na1 := na.tups (Tups.of s1)
  refine ⟨_, rfl, p, fr, _, ps, rfl, SqT.of hp, SqT.of na1.forks, by rw [List.length_map]; lia, by rw [List.length_map]; lia, fun ts H2 s2 z2 => ?_⟩
  have na2 := na1.tups (Tups.of s2)
  obtain ⟨te, tr⟩ := zip_trp z2 na2.prs
  rw [← pz_zip] at te
  have low : ∀ x ∈ ts, (dec H2 x).2.1 < 32 ∧ (dec H2 x).2.2 < 32 := fun x hx => pz_low ok _ (by rw [← te]; exact List.mem_map.mpr ⟨x, hx, rfl⟩)
  refine ⟨fun x => rnk (dec H2 x), .inr ⟨2, by decide, fun x hx => ⟨?_, fun y hy => lx_trp (tr x hx) (tr y hy) (low x hx) (low y hy)⟩⟩, fun l zs hl pm so => ?_⟩
  · obtain ⟨t, g, rfl, h1, _⟩ := tr x hx
    exact ⟨t, _, _, rfl, h1⟩
  have s3 := same_new hl (.lst zs)
  have zl : zs.length = N.forks.length := by rw [pm.length_eq, z2.1, List.length_map]; exact ll
  have ze : zs.map (dec H2) = isort (pz N) := plain_of_sorted ok (by rw [← te]; exact pm.map _) (List.pairwise_map.mpr so)
  have trz : ∀ x ∈ zs, Trp H2 x (dec H2 x) := fun x hx => tr x (pm.mem_iff.mp hx)
  refine ⟨l, rfl, ⟨_, SqL.of (atNew hl (.lst zs))⟩, fun lq hlq => ?_⟩
  refine lc_list (K := K) (a := l) (xs := zs) (fun j acc σ H4 => (∃ v0 v1, σ = [v0, v1]) ∧ Same H2 H4 ∧ H4 l = some (.lst zs) ∧ H4 lq = some (.lst acc) ∧ acc.length = j ∧ Prs H4 acc ((zs.take j).map fun x => (dec H2 x).2)) ⟨⟨_, _, rfl⟩, s3.trans (same_new hlq _), same_new hlq _ _ _ (atNew hl (.lst zs)), upd_same, rfl, trivial⟩ (fun j acc σ H4 q => ⟨q.2.2.2.1, SqL.of q.2.2.1⟩) ?_ ?_
  · rintro j x acc σ H4 hx ⟨⟨v0, v1, rfl⟩, s4, l4, h4, al, pr⟩
    have jl := (List.getElem?_eq_some_iff.mp hx).1
    obtain ⟨t, g, e, h1, h2⟩ := trz x (List.mem_of_getElem? hx)
    have ne : lq ≠ l := by rintro rfl; rw [atNew hl (.lst zs)] at hlq; cases hlq
    have keep : Same H2 (upd H4 lq (.lst (acc ++ [.ref g]))) := fun b o e => by rw [upd_ne (ne_of_none (s3 b o e) hlq)]; exact s4 b o e
    refine ⟨t, _, e, SqT.of (s4 _ _ h1), rfl, _, _, rfl, _, _, rfl, rfl, _, rfl, h4, Nat.lt_of_lt_of_le (show _ < 1000 by lia) (by decide), nx jl ⟨⟨_, _, rfl⟩, keep, by rw [upd_ne ne.symm]; exact l4, upd_same, by simp [al], ?_⟩⟩
    have xe : zs[j] = x := (List.getElem?_eq_some_iff.mp hx).2
    rw [List.take_succ_eq_append_getElem jl, List.map_append, xe]
    exact Prs.add (f := (dec H2 x).2) (keep _ _ h2) (pr.tups (Tups.lst h4))
  · rintro acc σ H4 ⟨⟨v0, v1, rfl⟩, s4, l4, h4, al, pr⟩
    rw [List.take_length] at pr
    have pe : (zs.map fun x => (dec H2 x).2) = plainF N := by
      unfold plainF
      rw [← ze, List.map_map]; rfl
    rw [pe] at pr
    refine ⟨lq, _, rfl, .inl ⟨SqL.of h4, fun q hq => ?_⟩⟩
    have s5 := same_new hq (.tup acc)
    refine ⟨_, rfl, (by show 3 ≤ sizeLine; decide), fun r' hr' => ?_⟩
    have s6 := same_new hr' (.tup [.int N.lanes, .ref q, .ref er])
    refine k r' q acc _ ((((s1.trans s2).trans s4).trans s5).trans s6) ⟨atNew hr' _, s6 _ _ (atNew hq _), pr.tups (Tups.of (s5.trans s6)), ?_⟩
    exact s6 _ _ (s5 _ _ (s4 _ _ na2.ends))
end
end K77
end
section
set_option maxHeartbeats 4000001
namespace L2
open PySem
section
variable {K : PySem.W.Frag} {C : Addr} {b : Bool} {t c : Value} {cs : List Value} {T : String}
theorem kit_ty (h : (Value.ref C == Value.type T) = false) (m : PySem.W.kitMeta T = true) (s : PySem.W.mroIn K C (.type T) = some b) : PySem.W.kitOne K (.ref C) (.type T) = some b := by
  unfold PySem.W.kitOne
  rw [h]
  simp only [PySem.W.kitCls, m]
  exact s
theorem kitAny_no (h : PySem.W.kitOne K t c = some false) (r : PySem.W.kitAny K t cs = some false) : PySem.W.kitAny K t (c :: cs) = some false := by
  rw [PySem.W.kitAny, h]
  exact r
end
end L2
namespace Bn
open PySem
structure MgV (mg : Str → Option Value) : Prop where
  ve : mg "ValueError" = none
end Bn
end
section
set_option maxHeartbeats 4000001
namespace K77
open PySem L2 Own Bn
abbrev sLaw : Stmt := top 42
def spLaw (K : PySem.W.Frag) : Sp := fun vs H Q _ => ∃ (a : Addr) (ns : List Int), vs = [.ref a] ∧ SqL K H a (ns.map V.int) ∧ ns.length ≤ 63 ∧ ∀ H', Q (.bl true) H'
theorem lanes_is {r : Str} {n : Nat} (h : lanesOf r = some n) : r = lanesR n := by
  have j := words_join 32 r
  unfold lanesOf at h
  change (match wordsC 32 r with | [a, b] => _ | _ => _) = some n at h
  generalize wordsC 32 r = zs at h j
  match zs, h, j with
  | [a, b], h, j =>
    dsimp only at h
    split at h
    · rename_i ea
      cases eb : numO b with
      | none => rw [eb] at h; cases h
      | some m =>
        rw [eb] at h
        dsimp only at h
        split at h
        · rename_i q
          obtain rfl := Option.some.inj h
          rw [← j, lanesR_join, ea, (numO_is eb).2, Int.toNat_of_nonneg (by lia)]; rfl
        · cases h
    · cases h
  | [], h, _ => cases h
  | [_], h, _ => cases h
  | _ :: _ :: _ :: _, h, _ => cases h
theorem fork_is {r : Str} {n : Nat} {f : Nat × Nat} (h : forkOf n r = some f) : r = forkR f := by
  have j := words_join 32 r
  have e := (forkO_ok h).1
  change (wordsC 32 r).map numO = _ at e
  generalize wordsC 32 r = zs at e j
  match zs, e, j with
  | [a, b], e, j =>
    rw [List.map_cons, List.map_cons] at e
    have e1 := (List.cons.inj e).1
    have e2 := (List.cons.inj (List.cons.inj e).2).1
    rw [← j, forkR_join, (numO_is e1).2, (numO_is e2).2]; rfl
  | [], e, _ => cases e
  | [_], e, _ => simp at e
  | _ :: _ :: _ :: _, e, _ => simp at e
theorem ends_is {r : Str} {n : Nat} {es : List Nat} (h : endsOf n r = some es) : r = endsR es := by
  have j := words_join 32 r
  have e := (endsOf_perm h).2
  change wordsC 32 r = _ at e
  rw [e] at j
  rw [← j]; rfl
theorem go_is (n : Nat) : ∀ (rs : List Str) (acc : List (Nat × Nat)) (k : Nat) (N : Nt), goR n acc k rs = .inr N → ∃ fs, N = ⟨n, acc ++ fs, N.ends⟩ ∧ rs = fs.map forkR ++ [endsR N.ends]
  | [], _, _, _, h => absurd h (by intro z; cases z)
  | r :: rs, acc, k, N, h => by
    rw [goR] at h
    cases e : endsOf n r with
    | some es =>
      rw [e] at h
      dsimp only at h
      split at h
      · rename_i q
        obtain rfl := Sum.inr.inj h
        exact ⟨[], by rw [List.append_nil], by rw [q, ends_is e]; rfl⟩
      · cases h
    | none =>
      rw [e] at h
      dsimp only at h
      cases g : forkOf n r with
      | some f =>
        rw [g] at h
        dsimp only at h
        split at h
        · obtain ⟨fs, e1, e2⟩ := go_is n rs _ _ N h
          exact ⟨f :: fs, by rw [e1, List.append_assoc]; rfl, by rw [fork_is g, e2]; rfl⟩
        · cases h
      | none => rw [g] at h; cases h
theorem rd_is {rows : List Str} {N : Nt} (h : rdR rows = .inr N) : rows = rowsN N.lanes N.forks N.ends := by
  cases rows with
  | nil => cases h
  | cons r rs =>
    rw [rdR] at h
    cases e : lanesOf r with
    | none => rw [e] at h; cases h
    | some n =>
      rw [e] at h
      obtain ⟨fs, e1, e2⟩ := go_is n rs [] 1 N h
      rw [lanes_is e, e2]
      have a : N.lanes = n := by rw [e1]
      have b : N.forks = fs := by rw [e1]; rfl
      rw [← a, ← b]; rfl
section
variable {P : Program} {w : World} {K : PySem.W.Frag} {mg : Str → Option Value} {base : Heap}
theorem scW : FnScope ["_law_script", "_law_state", "_law_turn", "_law_text_here", "_law_found_here", "_law_net"] ["_law_script"] (defScope sLaw) := ⟨rfl, rfl, rfl, by decide +kernel, rfl, by decide +kernel, by decide +kernel⟩
theorem ok_law {f fH fX fS fF fL fI fC fR fP : Addr} {fd dH dX dS dF dL dI dC dR dP : FuncData} (F : Fun K "law" "law" sLaw f fd) (G : Mgs mg) (UH : Use P w K mg base "_law_hand" ["_law_script"] 1 (spHand K) fH dH) (UX : Use P w K mg base "_law_text" ["_law_state"] 3 spTextL fX dX)
    (US : Use P w K mg base "_law_alike" ["_law_found_here", "_law_due"] 5 (spAlike 4) fS dS) (UF : Use P w K mg base "_law_found" ["_law_thing"] 7 (spFound K) fF dF) (UL : Use P w K mg base "_law_read" ["_law_text_here"] 3 spReadL fL dL) (UI : Use P w K mg base "is_net" ["thing"] 5 (spIsNet K) fI dI) (UC : Use P w K mg base "show_net" ["net"] 1 spShowN fC dC) (UR : Use P w K mg base "read_net" ["text"] 6 spReadZ fR dR) (UP : Use P w K mg base "plain" ["net"] 2 spPlain fP dP) : FnOk P w K mg base CX0 8 f fd ["_law_script"] (spLaw K) := by
  refine F.ok scW (fun vs H Q E h => ?_) (fun cdv A outer s H vs Q E hr h => ?_)
  · obtain ⟨a, ns, rfl, _⟩ := h
    rfl
  obtain ⟨a, ns, rfl, hS, h63, k⟩ := h
  have hr1 : Room 1 _ := hr.mono (by decide)
  have hr2 : Room 2 _ := hr.mono (by decide)
  have hr3 : Room 3 _ := hr.mono (by decide)
  have hr5 : Room 5 _ := hr.mono (by decide)
  have hr6 : Room 6 _ := hr.mono (by decide)
  refine ⟨_, (@pss_cons _ _ _ _ _ (@ps_set _ _ 1 _ _ _ _ scW.nd rfl (Or.inl rfl) (@pe_call _ _ _ _ _ _ _ _ _ _ _ _ _ _ _ _ UH.ok hr1 (by rfl) UH.m UH.kp UH.b .nil pass0 (@pa_cons _ _ _ _ _ (@pv _ 0 _ _ (by rfl) (by first | exact Or.inl rfl | exact Or.inr (Or.inl rfl) | exact Or.inr (Or.inr rfl)) (by decide) (by decide)) pa_nil (by rfl)) (by decide) (by rfl) (by rfl)) (by rfl) (by first | exact .inl rfl | exact .inr rfl | assumption)) (@pss_cons _ _ _ _ _ (@ps_for _ _ _ _ _ _ _ _ PassesOwn.never rfl (@pi_range1 _ _ _ _ _ _ rfl G.range (@pa_cons _ _ _ _ _ pe_int pa_nil (by rfl)) (by rfl)) (@pg_name _ _ 2 _ scW.nd rfl (Or.inl rfl) (by first | exact .inl rfl | exact .inr rfl | assumption)) (@pss_cons _ _ _ _ _ (@ps_set _ _ 3 _ _ _ _ scW.nd rfl (Or.inl rfl) (@pe_call _ _ _ _ _ _ _ _ _ _ _ _ _ _ _ _ UX.ok hr3 (by rfl) UX.m UX.kp UX.b .nil pass0 (@pa_cons _ _ _ _ _ (@pv _ 1 _ _ (by rfl) (by first | exact Or.inl rfl | exact Or.inr (Or.inl rfl) | exact Or.inr (Or.inr rfl)) (by decide) (by decide)) pa_nil (by rfl)) (by decide) (by rfl) (by rfl)) (by rfl) (by first | exact .inl rfl | exact .inr rfl | assumption)) (@pss_cons _ _ _ _ _ (@ps_set _ _ 4 _ _ _ _ scW.nd rfl (Or.inl rfl) (@pe_call _ _ _ _ _ _ _ _ _ _ _ _ _ _ _ _ UF.ok hr (by rfl) UF.m UF.kp UF.b .nil pass0 (@pa_cons _ _ _ _ _ (@pv _ 3 _ _ (by rfl) (by first | exact Or.inl rfl | exact Or.inr (Or.inl rfl) | exact Or.inr (Or.inr rfl)) (by decide) (by decide)) pa_nil (by rfl)) (by decide) (by rfl) (by rfl)) (by rfl) (by first | exact .inl rfl | exact .inr rfl | assumption)) (@pss_cons _ _ _ _ _ (@ps_if _ _ _ _ _ _ _ _ (@pt_not _ _ _ _ (@pt_val _ _ _ (@pe_call _ _ _ _ _ _ _ _ _ _ _ _ _ _ _ _ US.ok hr5 (by rfl) US.m US.kp US.b .nil pass0 (@pa_cons _ _ _ _ _ (@pv _ 4 _ _ (by rfl) (by first | exact Or.inl rfl | exact Or.inr (Or.inl rfl) | exact Or.inr (Or.inr rfl)) (by decide) (by decide)) (@pa_cons _ _ _ _ _ (@pe_call _ _ _ _ _ _ _ _ _ _ _ _ _ _ _ _ UL.ok hr3 (by rfl) UL.m UL.kp UL.b .nil pass0 (@pa_cons _ _ _ _ _ (@pv _ 3 _ _ (by rfl) (by first | exact Or.inl rfl | exact Or.inr (Or.inl rfl) | exact Or.inr (Or.inr rfl)) (by decide) (by decide)) pa_nil (by rfl)) (by decide) (by rfl) (by rfl)) pa_nil (by rfl)) (by rfl)) (by decide) (by rfl) (by rfl)) (by intro _; rfl))) (@pss_one _ _ _ (@ps_ret _ _ _ _ pe_bl)) pss_nil) (@pss_one _ _ _ (@ps_if _ _ _ _ _ _ _ _ (@pt_cmpR _ _ _ _ _ _ _ _ op_eq (@pe_ix _ _ _ _ _ _ _ ix_tup (@pv _ 4 _ _ (by rfl) (by first | exact Or.inl rfl | exact Or.inr (Or.inl rfl) | exact Or.inr (Or.inr rfl)) (by decide) (by decide)) pe_int (fun _ _ => rfl)) pe_str (nomark _)) (@pss_cons _ _ _ _ _ (@ps_set _ _ 5 _ _ _ _ scW.nd rfl (Or.inl rfl) (@pe_ix _ _ _ _ _ _ _ ix_tup (@pv _ 4 _ _ (by rfl) (by first | exact Or.inl rfl | exact Or.inr (Or.inl rfl) | exact Or.inr (Or.inr rfl)) (by decide) (by decide)) pe_int (fun _ _ => rfl)) (by rfl) (by first | exact .inl rfl | exact .inr rfl | assumption)) (@pss_one _ _ _ (@ps_if _ _ _ _ _ _ _ _ (PW.pt (@pw_or _ _ _ _ _ _ _ (@pt_cmpR _ _ _ _ _ _ _ _ op_notB (@pe_call _ _ _ _ _ _ _ _ _ _ _ _ _ _ _ _ UI.ok hr5 (by rfl) UI.m UI.kp UI.b .nil pass0 (@pa_cons _ _ _ _ _ (@pv _ 5 _ _ (by rfl) (by first | exact Or.inl rfl | exact Or.inr (Or.inl rfl) | exact Or.inr (Or.inr rfl)) (by decide) (by decide)) pa_nil (by rfl)) (by decide) (by rfl) (by rfl)) pe_bl (by rfl)) (@pw_or _ _ _ _ _ _ _ (@pt_cmpR _ _ _ _ _ _ _ _ op_ne (@pe_call _ _ _ _ _ _ _ _ _ _ _ _ _ _ _ _ UC.ok hr1 (by rfl) UC.m UC.kp UC.b .nil pass0 (@pa_cons _ _ _ _ _ (@pv _ 5 _ _ (by rfl) (by first | exact Or.inl rfl | exact Or.inr (Or.inl rfl) | exact Or.inr (Or.inr rfl)) (by decide) (by decide)) pa_nil (by rfl)) (by decide) (by rfl) (by rfl)) (@pv _ 3 _ _ (by rfl) (by first | exact Or.inl rfl | exact Or.inr (Or.inl rfl) | exact Or.inr (Or.inr rfl)) (by decide) (by decide)) (nomark _)) (@pw_or1 _ _ _ _ (@pt_cmpR _ _ _ _ _ _ _ _ (op_neD hr.units) (@pe_call _ _ _ _ _ _ _ _ _ _ _ _ _ _ _ _ UR.ok hr6 (by rfl) UR.m UR.kp UR.b .nil pass0 (@pa_cons _ _ _ _ _ (@pe_call _ _ _ _ _ _ _ _ _ _ _ _ _ _ _ _ UC.ok hr1 (by rfl) UC.m UC.kp UC.b .nil pass0 (@pa_cons _ _ _ _ _ (@pe_call _ _ _ _ _ _ _ _ _ _ _ _ _ _ _ _ UP.ok hr2 (by rfl) UP.m UP.kp UP.b .nil pass0 (@pa_cons _ _ _ _ _ (@pv _ 5 _ _ (by rfl) (by first | exact Or.inl rfl | exact Or.inr (Or.inl rfl) | exact Or.inr (Or.inr rfl)) (by decide) (by decide)) pa_nil (by rfl)) (by decide) (by rfl) (by rfl)) pa_nil (by rfl)) (by decide) (by rfl) (by rfl)) pa_nil (by rfl)) (by decide) (by rfl) (by rfl)) (@pe_call _ _ _ _ _ _ _ _ _ _ _ _ _ _ _ _ UP.ok hr2 (by rfl) UP.m UP.kp UP.b .nil pass0 (@pa_cons _ _ _ _ _ (@pv _ 5 _ _ (by rfl) (by first | exact Or.inl rfl | exact Or.inr (Or.inl rfl) | exact Or.inr (Or.inr rfl)) (by decide) (by decide)) pa_nil (by rfl)) (by decide) (by rfl) (by rfl)) (nomark _)))))) (@pss_one _ _ _ (@ps_ret _ _ _ _ pe_bl)) pss_nil))) pss_nil))))) (by intro _; rfl)) (@pss_one _ _ _ (@ps_ret _ _ _ _ pe_bl)))), ?_⟩
  refine ⟨_, rfl, a, ns, rfl, hS, h63, fun l H1 hl s1 S1 => ?_⟩
  refine ⟨25, rfl, by decide, by decide, ?_⟩
  refine for_range (lo := 0) (n := (25 : Int).toNat) (fun i σ H2 => (∃ v2 v3 v4 v5, σ = [some (.ref a), some (.ref l), v2, v3, v4, v5]) ∧ StAt H2 l (100 * i)) ⟨⟨_, _, _, _, rfl⟩, S1⟩ ?_ (fun σ H2 _ => k H2)
  rintro i σ H2 hi ⟨⟨v2, v3, v4, v5, rfl⟩, S2⟩
  have i25 : i < 25 := hi
  refine ⟨_, rfl, l, _, rfl, S2, by lia, fun rows H3 rb r9 S3 B3 => ?_⟩
  have rb10 := rb.mono (c := 10) (by decide)
  refine ⟨_, rfl, .inr ⟨rows, rfl, rb10, fun r H4 s4 ta => ?_⟩⟩
  refine ⟨_, rfl, _, rfl, rows, rfl, rb10, fun r' H5 s5 ta' => ?_⟩
  refine ⟨_, _, rfl, eq3_tell (fun N z => rdR_ok z) (ta.same s5) ta', fun H6 s6 => ⟨true, rfl, iteF ?_⟩⟩
  have tb := (ta.same s5).same s6
  have S6 := ((S3.keep s4).keep s5).keep s6
  cases e : rdR rows with
  | inl m =>
    rw [e] at tb
    refine ⟨_, rfl, r, _, _, _, rfl, rfl, SqT.of tb, rfl, rfl, _, rfl, ?_⟩
    rw [decide_eq_false (fun z => absurd (V.str.inj z) (by decide))]
    exact iteF ⟨⟨_, _, _, _, rfl⟩, S6.mono (by lia)⟩
  | inr N =>
    rw [e] at tb
    obtain ⟨q, fr, er, ps, hq, na⟩ := tb
    have ok := rdR_ok e
    have few : N.forks.length ≤ 63 := by
      rw [rd_is e] at r9
      unfold rowsN at r9
      rw [List.length_cons, List.length_append, List.length_map] at r9
      lia
    have et : netT N.lanes N.forks N.ends = Txt.join sNl rows := by rw [rd_is e]; rfl
    refine ⟨_, rfl, r, _, _, _, rfl, rfl, SqT.of hq, rfl, rfl, _, rfl, ?_⟩
    rw [decide_eq_true rfl]
    refine iteT ⟨_, rfl, r, _, _, _, rfl, rfl, SqT.of hq, rfl, ?_⟩
    refine ⟨_, rfl, .ref q, rfl, net_deep ok na, fun H7 s7 => ?_⟩
    rw [net_true ok na]
    have na7 := na.tups (Tups.of s7)
    refine ⟨_, _, rfl, rfl, _, rfl, iteF ?_⟩
    refine ⟨_, rfl, q, fr, er, ps, N, rfl, ok, na7, fun H8 s8 => ?_⟩
    rw [et]
    refine ⟨_, rfl, rfl, _, rfl, ?_⟩
    rw [decide_eq_true rfl]
    refine iteF ?_
    have na8 := na7.tups (Tups.of s8)
    refine ⟨_, rfl, q, fr, er, ps, N, rfl, ok, few, na8, fun q2 fr2 ps2 H9 s9 nb => ?_⟩
    have okp := plain_ok ok
    refine ⟨q2, fr2, er, ps2, plainN N, rfl, okp, nb, fun H10 s10 => ?_⟩
    refine ⟨rowsN (plainN N).lanes (plainN N).forks (plainN N).ends, rfl, (rows_net okp).mono (by decide), plainN N, rd_net okp, fun q3 fr3 er3 ps3 H11 s11 nc => ?_⟩
    have na11 := ((na8.tups (Tups.of s9)).tups (Tups.of s10)).tups (Tups.of s11)
    refine ⟨_, rfl, q, fr, er, ps, N, rfl, ok, few, na11, fun q4 fr4 ps4 H12 s12 nd => ?_⟩
    have nc12 := nc.tups (Tups.of s12)
    refine ⟨2, q3, q4, _, _, by decide, rfl, rfl, SqT.of nc12.net, SqT.of nd.net, rfl, deq_net nc12 nd, _, rfl, iteF ⟨⟨_, _, _, _, rfl⟩, ?_⟩⟩
    exact ((((((S6.keep s7).keep s8).keep s9).keep s10).keep s11).keep s12).mono (by lia)
end
end K77
end
namespace K77
open PySem L2 Own Bn
structure FnAt (K : PySem.W.Frag) (x : Str) (st : Stmt) (f : Addr) (fd : FuncData) : Prop where
  ns : PySem.W.nsIn K mainGlobals x = some (some (.ref f))
  fn : Fun K x x st f fd
theorem fn_at {K : PySem.W.Frag} {x : Str} {st : Stmt} {f : Addr} {oc : Value} {od an : Option Addr} {osl : Array (Option Value)} {kV doc pm cdv ct : Value} (a : PySem.W.nsIn K mainGlobals x = some (some (.ref f)))
    (l : K.lookup f = some ⟨oc, od, .func (PySem.W.fnOf x x (defArgs st) (defBody st) (defScope st) .none kV doc pm an cdv ct), osl⟩) (c : PySem.W.codeIn K cdv x = true) (k : PySem.W.keepIn K (.ref f) = true) : FnAt K x st f (PySem.W.fnOf x x (defArgs st) (defBody st) (defScope st) .none kV doc pm an cdv ct) := ⟨a, fun_mk l c k⟩
structure InitAt (K : PySem.W.Frag) (q : Str) (st : Stmt) (f : Addr) (fd : FuncData) : Prop where
  fn : Fun K "__init__" q st f fd
  fl : ∃ oI, K.lookup f = some oI ∧ oI.cls = .type "function"
theorem init_at {K : PySem.W.Frag} {q : Str} {st : Stmt} {f : Addr} {od an : Option Addr} {osl : Array (Option Value)} {kV doc pm cdv ct : Value} (l : K.lookup f = some ⟨.type "function", od, .func (PySem.W.fnOf "__init__" q (defArgs st) (defBody st) (defScope st) .none kV doc pm an cdv ct), osl⟩) (c : PySem.W.codeIn K cdv q = true) (k : PySem.W.keepIn K (.ref f) = true) : InitAt K q st f (PySem.W.fnOf "__init__" q (defArgs st) (defBody st) (defScope st) .none kV doc pm an cdv ct) := ⟨fun_mk (st := st) l c k, _, l, rfl⟩
theorem us1 {us : List Value} (h : us.length = 1) : ∃ u0, us = [u0] := by
  match us, h with
  | [u0], _ => exact ⟨u0, rfl⟩
theorem us2 {us : List Value} (h : us.length = 2) : ∃ u0 u1, us = [u0, u1] := by
  match us, h with
  | [u0, u1], _ => exact ⟨u0, u1, rfl⟩
theorem us3 {us : List Value} (h : us.length = 3) : ∃ u0 u1 u2, us = [u0, u1, u2] := by
  match us, h with
  | [u0, u1, u2], _ => exact ⟨u0, u1, u2, rfl⟩
set_option maxHeartbeats 4000001 in
theorem all_mk {l : PySem.W.OpenLaw} {w : World} {K : PySem.W.Frag} {h : Heap} {mg : Str → Option Value} {fa f1 f2 f3 f4 f5 f6 f7 f8 f9 f10 f11 f12 f13 f14 f15 f16 f17 f18 f19 f20 f21 f22 f23 f24 f25 f26 f27 : Addr} {d1 d2 d3 d4 d5 d6 d7 d8 d9 d10 d11 d12 d13 d14 d15 d16 d17 d18 d19 d20 d21 d22 d23 d24 d25 d26 d27 : FuncData} (X : K.In h) (G : h.Ns mainGlobals mg) (hfa : mg "law" = some (.ref fa))
    (A1 : FnAt K "_law_hand" sHand f1 d1)
    (A2 : FnAt K "_law_take" sTake f2 d2)
    (A3 : FnAt K "is_whole" sWhole f3 d3)
    (A4 : FnAt K "is_below" sBelow f4 d4)
    (A5 : FnAt K "is_row" sIsRow f5 d5)
    (A6 : FnAt K "are_below" sAreBelow f6 d6)
    (A7 : FnAt K "is_fork" sIsFork f7 d7)
    (A8 : FnAt K "are_all_lanes" sAllLanes f8 d8)
    (A9 : FnAt K "number_in" sNumIn f9 d9)
    (A10 : FnAt K "numbers_in" sNumsIn f10 d10)
    (A11 : FnAt K "lanes_in" sLanesIn f11 d11)
    (A12 : FnAt K "forks_in" sForksIn f12 d12)
    (A13 : FnAt K "ends_in" sEndsIn f13 d13)
    (A14 : FnAt K "read_net" sReadN f14 d14)
    (A15 : FnAt K "_law_number_in" sNumL f15 d15)
    (A16 : FnAt K "_law_row_in" sRowIn f16 d16)
    (A17 : FnAt K "_law_read" sReadL f17 d17)
    (A18 : FnAt K "_law_found" sFound f18 d18)
    (A19 : FnAt K "_law_alike" sAlike f19 d19)
    (A20 : FnAt K "layers" sLayers f20 d20)
    (A21 : FnAt K "plain" sPlain f21 d21)
    (A22 : FnAt K "are_forks" sAreForks f22 d22)
    (A23 : FnAt K "is_net" sIsNet f23 d23)
    (A24 : FnAt K "show_net" sShowN f24 d24)
    (A25 : FnAt K "_law_row" sRowL f25 d25)
    (A26 : FnAt K "_law_text" sTextL f26 d26)
    (A27 : FnAt K "law" sLaw f27 d27)
    (z1 : PySem.W.nsIn K mainGlobals "len" = some none)
    (z2 : PySem.W.nsIn K mainGlobals "range" = some none)
    (z3 : PySem.W.nsIn K mainGlobals "tuple" = some none)
    (z4 : PySem.W.nsIn K mainGlobals "enumerate" = some none)
    (z5 : PySem.W.nsIn K mainGlobals "abs" = some none)
    (z6 : PySem.W.nsIn K mainGlobals "zip" = some none)
    (z7 : PySem.W.nsIn K mainGlobals "isinstance" = some none)
    (z8 : PySem.W.nsIn K mainGlobals "all" = some none)
    (z9 : PySem.W.nsIn K mainGlobals "sum" = some none)
    (z10 : PySem.W.nsIn K mainGlobals "bool" = some none)
    (z11 : PySem.W.nsIn K mainGlobals "int" = some none)
    (z12 : PySem.W.nsIn K mainGlobals "str" = some none)
    (z13 : PySem.W.nsIn K mainGlobals "max" = some none)
    (z14 : PySem.W.nsIn K mainGlobals "min" = some none)
    (z15 : PySem.W.nsIn K mainGlobals "sorted" = some none)
    (z16 : PySem.W.nsIn K mainGlobals "list" = some none)
    (z17 : PySem.W.nsIn K mainGlobals "ValueError" = some none)
    {tk0 : Tok} (zk0 : PySem.W.nsIn K mainGlobals "MOST_LANES" = some (some (.int 16 tk0)))
    {tk1 : Tok} (zk1 : PySem.W.nsIn K mainGlobals "MOST_FORKS" = some (some (.int 128 tk1)))
    {tk2 : Tok} (zk2 : PySem.W.nsIn K mainGlobals "MOST_FIGURES" = some (some (.int 30 tk2)))
    {tk3 : Tok} (zk3 : PySem.W.nsIn K mainGlobals "FIGURES" = some (some (.str (Str.ofString "0123456789") tk3)))
    {CL CG CD CO CN CE fI NG : Addr} {dI : FuncData} {xa xb : Str} {bsG subG : List Value} {snG : List Str} {abG : Bool} {colG : Option Bool} {ddG : Option Addr} {g0 g1 g2 g3 g5 : Option Value}
    (aL : PySem.W.nsIn K mainGlobals "LaneError" = some (some (.ref CL))) (aG : PySem.W.nsIn K mainGlobals "NoText" = some (some (.ref CG))) (aD : PySem.W.nsIn K mainGlobals "NoDeed" = some (some (.ref CD))) (aO : PySem.W.nsIn K mainGlobals "NoGroup" = some (some (.ref CO))) (aN : PySem.W.nsIn K mainGlobals "NoLine" = some (some (.ref CN))) (aE : PySem.W.nsIn K mainGlobals "NotEven" = some (some (.ref CE)))
    (lG : K.lookup CG = some (excClassObj xa xb CG NG bsG (.ref CL :: bmV) true snG subG abG colG ddG g0 g1 g2 g3 g5 "ValueError.__new__")) {oN oM : Obj} {cL cD cO cN cE : ClassData} (lN : K.lookup NG = some oN) (uN : PySem.W.nsOkIn [(NG, oN)] NG = true) (iG : PySem.W.nsIn K NG "__init__" = some (some (.ref fI)))
    (AI : InitAt K "NoText.__init__" sXInit fI dI) (cCL : PySem.W.clsIn K CL = some cL) (lM : K.lookup cL.ns = some oM) (uM : PySem.W.nsOkIn [(cL.ns, oM)] cL.ns = true) (iM : PySem.W.nsIn K cL.ns "__init__" = some none) (seG : PySem.W.findIn K (.ref CG) "__setattr__" = some (some (.builtin "object.__setattr__"))) (kpG : PySem.W.keepIn K (.ref CG) = true)
    (spL : PySem.W.specialIn K (.ref CL) "__getattribute__" = some (some (.builtin "type.__getattribute__"))) (rdL : PySem.W.readsIn K CL (.type "type") = true) (fdL : PySem.W.findCls K (.ref CL) (.type "type") "__init__" = some (.val (.builtin "ValueError.__init__")))
    (x1 : PySem.W.findIn K (.ref CG) "__getattribute__" = some (some (.builtin "BaseException.__getattribute__"))) (x2 : PySem.W.findIn K (.ref CG) "__getattr__" = some none) (x3 : PySem.W.mroIn K CG (.type "BaseException") = some true) (x4 : PySem.W.mroIn K CG (.type "object") = some true) (x5 : PySem.W.findIn K (.ref CG) "__class__" = some (some (.builtin "object.__class__")))
    (x6 : PySem.W.specialIn K (.builtin "object.__class__") "__get__" = some (some (.builtin "getset_descriptor.__get__"))) (x7 : PySem.W.takesIn K (.builtin "object.__class__") = some true) (x8 : PySem.W.hasDictIn K CG = true)
    (y1 : PySem.W.mroIn K CL (.type "BaseException") = some true) (y2 : PySem.W.typeIn K (.ref CL) = some (.type "type")) (y3 : PySem.W.mroIn K CG (.ref CL) = some true) (y4 : (Value.ref CG == Value.ref CG) = true) (y5D : (Value.ref CG == Value.ref CD) = false) (cCD : PySem.W.clsIn K CD = some cD) (y6D : PySem.W.typeIn K (.ref CD) = some (.type "type")) (y7D : PySem.W.mroIn K CG (.ref CD) = some false) (y5O : (Value.ref CG == Value.ref CO) = false) (cCO : PySem.W.clsIn K CO = some cO) (y6O : PySem.W.typeIn K (.ref CO) = some (.type "type")) (y7O : PySem.W.mroIn K CG (.ref CO) = some false) (y5N : (Value.ref CG == Value.ref CN) = false) (cCN : PySem.W.clsIn K CN = some cN) (y6N : PySem.W.typeIn K (.ref CN) = some (.type "type")) (y7N : PySem.W.mroIn K CG (.ref CN) = some false) (y5E : (Value.ref CG == Value.ref CE) = false) (cCE : PySem.W.clsIn K CE = some cE) (y6E : PySem.W.typeIn K (.ref CE) = some (.type "type")) (y7E : PySem.W.mroIn K CG (.ref CE) = some false) (y8 : (Value.ref CG == Value.type "ValueError") = false) (y9 : PySem.W.kitMeta "ValueError" = true) (y0 : PySem.W.mroIn K CG (.type "ValueError") = some true) (nap : PySem.W.findIn K (.ref CG) "row" = some none)
    : ∃ fd : FuncData, (∀ (s : Shared) (v : Value), BindsTo s fd ⟨[v], []⟩ [("_law_script", v)]) ∧ ∀ base : Heap, K.In base → base.Ns mainGlobals mg → FnOk l.prog w K mg base CX0 8 fa fd ["_law_script"] (spLaw K) := by
  have e := hfa.symm.trans (PySem.W.mg_of X G A27.ns)
  cases e
  have M : Mgs mg := ⟨PySem.W.mg_none_of X G z1, PySem.W.mg_none_of X G z2, PySem.W.mg_none_of X G z3, PySem.W.mg_none_of X G z4, PySem.W.mg_none_of X G z5, PySem.W.mg_none_of X G z6, PySem.W.mg_none_of X G z7, PySem.W.mg_none_of X G z8, PySem.W.mg_none_of X G z9, PySem.W.mg_none_of X G z10, PySem.W.mg_none_of X G z11, PySem.W.mg_none_of X G z12, PySem.W.mg_none_of X G z13, PySem.W.mg_none_of X G z14, PySem.W.mg_none_of X G z15, PySem.W.mg_none_of X G z16⟩
  have M2 : MgV mg := ⟨PySem.W.mg_none_of X G z17⟩
  have kc0 := PySem.W.mg_of X G zk0
  have kc1 := PySem.W.mg_of X G zk1
  have kc2 := PySem.W.mg_of X G zk2
  have kc3 := PySem.W.mg_of X G zk3
  have b1 := A1.fn.binds (ps := ["_law_script"]) fun _ _ _ _ _ _ us hl => by obtain ⟨u0, rfl⟩ := us1 hl; rfl
  have m1 := PySem.W.mg_of X G A1.ns
  have b2 := A2.fn.binds (ps := ["_law_state", "_law_many"]) fun _ _ _ _ _ _ us hl => by obtain ⟨u0, u1, rfl⟩ := us2 hl; rfl
  have m2 := PySem.W.mg_of X G A2.ns
  have b3 := A3.fn.binds (ps := ["thing"]) fun _ _ _ _ _ _ us hl => by obtain ⟨u0, rfl⟩ := us1 hl; rfl
  have m3 := PySem.W.mg_of X G A3.ns
  have b4 := A4.fn.binds (ps := ["thing", "bound"]) fun _ _ _ _ _ _ us hl => by obtain ⟨u0, u1, rfl⟩ := us2 hl; rfl
  have m4 := PySem.W.mg_of X G A4.ns
  have b5 := A5.fn.binds (ps := ["thing", "many"]) fun _ _ _ _ _ _ us hl => by obtain ⟨u0, u1, rfl⟩ := us2 hl; rfl
  have m5 := PySem.W.mg_of X G A5.ns
  have b6 := A6.fn.binds (ps := ["thing", "many", "bound"]) fun _ _ _ _ _ _ us hl => by obtain ⟨u0, u1, u2, rfl⟩ := us3 hl; rfl
  have m6 := PySem.W.mg_of X G A6.ns
  have b7 := A7.fn.binds (ps := ["lanes", "thing"]) fun _ _ _ _ _ _ us hl => by obtain ⟨u0, u1, rfl⟩ := us2 hl; rfl
  have m7 := PySem.W.mg_of X G A7.ns
  have b8 := A8.fn.binds (ps := ["lanes", "thing"]) fun _ _ _ _ _ _ us hl => by obtain ⟨u0, u1, rfl⟩ := us2 hl; rfl
  have m8 := PySem.W.mg_of X G A8.ns
  have b9 := A9.fn.binds (ps := ["word"]) fun _ _ _ _ _ _ us hl => by obtain ⟨u0, rfl⟩ := us1 hl; rfl
  have m9 := PySem.W.mg_of X G A9.ns
  have b10 := A10.fn.binds (ps := ["words"]) fun _ _ _ _ _ _ us hl => by obtain ⟨u0, rfl⟩ := us1 hl; rfl
  have m10 := PySem.W.mg_of X G A10.ns
  have b11 := A11.fn.binds (ps := ["row"]) fun _ _ _ _ _ _ us hl => by obtain ⟨u0, rfl⟩ := us1 hl; rfl
  have m11 := PySem.W.mg_of X G A11.ns
  have b12 := A12.fn.binds (ps := ["lanes", "rows"]) fun _ _ _ _ _ _ us hl => by obtain ⟨u0, u1, rfl⟩ := us2 hl; rfl
  have m12 := PySem.W.mg_of X G A12.ns
  have b13 := A13.fn.binds (ps := ["lanes", "row"]) fun _ _ _ _ _ _ us hl => by obtain ⟨u0, u1, rfl⟩ := us2 hl; rfl
  have m13 := PySem.W.mg_of X G A13.ns
  have b14 := A14.fn.binds (ps := ["text"]) fun _ _ _ _ _ _ us hl => by obtain ⟨u0, rfl⟩ := us1 hl; rfl
  have m14 := PySem.W.mg_of X G A14.ns
  have b15 := A15.fn.binds (ps := ["_law_word"]) fun _ _ _ _ _ _ us hl => by obtain ⟨u0, rfl⟩ := us1 hl; rfl
  have m15 := PySem.W.mg_of X G A15.ns
  have b16 := A16.fn.binds (ps := ["_law_row_here", "_law_at", "_law_kept"]) fun _ _ _ _ _ _ us hl => by obtain ⟨u0, u1, u2, rfl⟩ := us3 hl; rfl
  have m16 := PySem.W.mg_of X G A16.ns
  have b17 := A17.fn.binds (ps := ["_law_text_here"]) fun _ _ _ _ _ _ us hl => by obtain ⟨u0, rfl⟩ := us1 hl; rfl
  have m17 := PySem.W.mg_of X G A17.ns
  have b18 := A18.fn.binds (ps := ["_law_thing"]) fun _ _ _ _ _ _ us hl => by obtain ⟨u0, rfl⟩ := us1 hl; rfl
  have m18 := PySem.W.mg_of X G A18.ns
  have b19 := A19.fn.binds (ps := ["_law_found_here", "_law_due"]) fun _ _ _ _ _ _ us hl => by obtain ⟨u0, u1, rfl⟩ := us2 hl; rfl
  have m19 := PySem.W.mg_of X G A19.ns
  have b20 := A20.fn.binds (ps := ["net"]) fun _ _ _ _ _ _ us hl => by obtain ⟨u0, rfl⟩ := us1 hl; rfl
  have m20 := PySem.W.mg_of X G A20.ns
  have b21 := A21.fn.binds (ps := ["net"]) fun _ _ _ _ _ _ us hl => by obtain ⟨u0, rfl⟩ := us1 hl; rfl
  have m21 := PySem.W.mg_of X G A21.ns
  have b22 := A22.fn.binds (ps := ["lanes", "thing"]) fun _ _ _ _ _ _ us hl => by obtain ⟨u0, u1, rfl⟩ := us2 hl; rfl
  have m22 := PySem.W.mg_of X G A22.ns
  have b23 := A23.fn.binds (ps := ["thing"]) fun _ _ _ _ _ _ us hl => by obtain ⟨u0, rfl⟩ := us1 hl; rfl
  have m23 := PySem.W.mg_of X G A23.ns
  have b24 := A24.fn.binds (ps := ["net"]) fun _ _ _ _ _ _ us hl => by obtain ⟨u0, rfl⟩ := us1 hl; rfl
  have m24 := PySem.W.mg_of X G A24.ns
  have b25 := A25.fn.binds (ps := ["_law_state", "_law_lanes"]) fun _ _ _ _ _ _ us hl => by obtain ⟨u0, u1, rfl⟩ := us2 hl; rfl
  have m25 := PySem.W.mg_of X G A25.ns
  have b26 := A26.fn.binds (ps := ["_law_state"]) fun _ _ _ _ _ _ us hl => by obtain ⟨u0, rfl⟩ := us1 hl; rfl
  have m26 := PySem.W.mg_of X G A26.ns
  have mL := PySem.W.mg_of X G aL
  have mG := PySem.W.mg_of X G aG
  have mD := PySem.W.mg_of X G aD
  have mO := PySem.W.mg_of X G aO
  have mN := PySem.W.mg_of X G aN
  have mE := PySem.W.mg_of X G aE
  have XO : XOwn K CG CL fI := ⟨⟨_, _, _, _, _, _, _, _, _, _, _, _, _, _, lG, nsOk_of lN uN, iG⟩, tail_own cCL (nsOk_of lM uM) iM, AI.fl, seG, kpG⟩
  have XB : XBase K CL := ⟨spL, rdL, fdL⟩
  have XI : XIs K CG := ⟨x1, x2, x3, x4, x5, x6, x7, x8⟩
  have xm := exm_own y1 cCL y2 y3
  have kg := kit_same (K := K) y4
  have ka := kitAny_no (kit_other y5D cCD y6D y7D) (kitAny_no (kit_other y5O cCO y6O y7O) (kitAny_no (kit_other y5N cCN y6N y7N) (kitAny_no (kit_other y5E cCE y6E y7E) (show PySem.W.kitAny K (.ref CG) [] = some false from rfl))))
  have kv := kit_ty y8 y9 y0
  have bI := AI.fn.binds (ps := ["self", "row"]) fun _ _ _ _ _ _ us hl => by obtain ⟨u0, u1, rfl⟩ := us2 hl; rfl
  obtain ⟨oc, od, kV, doc, pm, an, cdv, ct, osl, ed, _, _⟩ := id A27.fn.ex
  refine ⟨d27, fun s v => by rw [ed]; exact .of_eq rfl, fun base _ _ => ?_⟩
  have U1 : Use l.prog w K mg base "_law_hand" ["_law_script"] 1 (spHand K) f1 d1 := ⟨ok_hand A1.fn M, b1, A1.fn.kp, m1⟩
  have U2 : Use l.prog w K mg base "_law_take" ["_law_state", "_law_many"] 1 (spTake K) f2 d2 := ⟨ok_take A2.fn, b2, A2.fn.kp, m2⟩
  have U3 : Use l.prog w K mg base "is_whole" ["thing"] 1 (spWhole K) f3 d3 := ⟨ok_whole A3.fn M, b3, A3.fn.kp, m3⟩
  have U4 : Use l.prog w K mg base "is_below" ["thing", "bound"] 2 (spBelow K) f4 d4 := ⟨ok_below A4.fn M U3, b4, A4.fn.kp, m4⟩
  have U5 : Use l.prog w K mg base "is_row" ["thing", "many"] 1 (spIsRow K) f5 d5 := ⟨ok_isrow A5.fn M, b5, A5.fn.kp, m5⟩
  have U6 : Use l.prog w K mg base "are_below" ["thing", "many", "bound"] 3 (spAreBelow K) f6 d6 := ⟨ok_arebelow A6.fn M U5 U4, b6, A6.fn.kp, m6⟩
  have U7 : Use l.prog w K mg base "is_fork" ["lanes", "thing"] 3 (spIsFork K) f7 d7 := ⟨ok_isfork A7.fn M U5 U4, b7, A7.fn.kp, m7⟩
  have U22 : Use l.prog w K mg base "are_forks" ["lanes", "thing"] 4 (spAreForks K) f22 d22 := ⟨ok_areforks A22.fn M kc1 U7, b22, A22.fn.kp, m22⟩
  have U8 : Use l.prog w K mg base "are_all_lanes" ["lanes", "thing"] 4 (spAllLanes K) f8 d8 := ⟨ok_alllanes A8.fn M U6, b8, A8.fn.kp, m8⟩
  have U23 : Use l.prog w K mg base "is_net" ["thing"] 5 (spIsNet K) f23 d23 := ⟨ok_isnet A23.fn M kc0 U5 U3 U22 U8, b23, A23.fn.kp, m23⟩
  have U9 : Use l.prog w K mg base "number_in" ["word"] 1 spNumZ f9 d9 := ⟨ok_numz A9.fn M kc2 kc3, b9, A9.fn.kp, m9⟩
  have U10 : Use l.prog w K mg base "numbers_in" ["words"] 2 spNumsZ f10 d10 := ⟨ok_numsz A10.fn M U9, b10, A10.fn.kp, m10⟩
  have U11 : Use l.prog w K mg base "lanes_in" ["row"] 2 spLanesZ f11 d11 := ⟨ok_lanesz A11.fn M kc0 U9, b11, A11.fn.kp, m11⟩
  have U12 : Use l.prog w K mg base "forks_in" ["lanes", "rows"] 4 spForksZ f12 d12 := ⟨ok_forksz A12.fn M kc1 U10 U7, b12, A12.fn.kp, m12⟩
  have U13 : Use l.prog w K mg base "ends_in" ["lanes", "row"] 5 spEndsZ f13 d13 := ⟨ok_endsz A13.fn M U10 U8, b13, A13.fn.kp, m13⟩
  have U14 : Use l.prog w K mg base "read_net" ["text"] 6 spReadZ f14 d14 := ⟨ok_readz A14.fn M U11 U12 U13, b14, A14.fn.kp, m14⟩
  have U15 : Use l.prog w K mg base "_law_number_in" ["_law_word"] 1 spNumZ f15 d15 := ⟨ok_numl A15.fn M, b15, A15.fn.kp, m15⟩
  have U16 : Use l.prog w K mg base "_law_row_in" ["_law_row_here", "_law_at", "_law_kept"] 2 spRowIn f16 d16 := ⟨ok_rowin A16.fn M U15, b16, A16.fn.kp, m16⟩
  have U17 : Use l.prog w K mg base "_law_read" ["_law_text_here"] 3 spReadL f17 d17 := ⟨ok_readl A17.fn M U16, b17, A17.fn.kp, m17⟩
  have U18 : Use l.prog w K mg base "_law_found" ["_law_thing"] 7 (spFound K) f18 d18 := ⟨ok_found A18.fn M U14 (ok_readzx A14.fn M U11 U12 U13 XO (ok_xinit AI.fn XB XO mL nap) bI mG) mL M2.ve mD mO mN mE mG XI xm kv ka kg nap, b18, A18.fn.kp, m18⟩
  have U19 : Use l.prog w K mg base "_law_alike" ["_law_found_here", "_law_due"] 5 (spAlike 4) f19 d19 := ⟨ok_alike A19.fn M b19 m19 4, b19, A19.fn.kp, m19⟩
  have U20 : Use l.prog w K mg base "layers" ["net"] 1 spLayers f20 d20 := ⟨ok_layers A20.fn M, b20, A20.fn.kp, m20⟩
  have U21 : Use l.prog w K mg base "plain" ["net"] 2 spPlain f21 d21 := ⟨ok_plain A21.fn M U20, b21, A21.fn.kp, m21⟩
  have U24 : Use l.prog w K mg base "show_net" ["net"] 1 spShowN f24 d24 := ⟨ok_shown A24.fn M, b24, A24.fn.kp, m24⟩
  have U25 : Use l.prog w K mg base "_law_row" ["_law_state", "_law_lanes"] 2 spRowL f25 d25 := ⟨ok_rowl A25.fn M U2, b25, A25.fn.kp, m25⟩
  have U26 : Use l.prog w K mg base "_law_text" ["_law_state"] 3 spTextL f26 d26 := ⟨ok_textl A26.fn M U2 U25, b26, A26.fn.kp, m26⟩
  exact ok_law A27.fn M U1 U26 U19 U18 U17 U23 U24 U14 U21
theorem walk {l : PySem.W.OpenLaw} {q : Program} {loose : List Str} {XP : (Str → Option Value) → Heap → Prop} {YP : World → Heap → Prop} {d : DefRec} {K : Params → PySem.W.Frag} (hn : l.most = some 63) (hdf : d.params.defaults = [])
    (hY : ∀ (w : World) (h : Heap), YP w h → (K w.params).In h)
    (F : ∀ (w : World) (mg : Str → Option Value) (fa : Addr) (h : Heap), (K w.params).In h → h.Ns mainGlobals mg → mg d.name = some (.ref fa) →
      ∃ fd : FuncData, (∀ (s : Shared) (u : Value), BindsTo s fd ⟨[u], []⟩ [("_law_script", u)]) ∧ ∀ base : Heap, (K w.params).In base → base.Ns mainGlobals mg → FnOk l.prog w (K w.params) mg base CX0 8 fa fd ["_law_script"] (spLaw (K w.params))) :
    PySem.W.WalkO q loose XP YP l.row.toRowW d [] (fun f vs => PySem.call f vs) :=
  L2.walk_ofK (n := 63) (k := 8) (x := "_law_script") (CX := CX0) (sp := spLaw) hn (by decide) hdf ⟨rfl, by decide, by decide, rfl⟩ hY F (fun _ _ a ns hl _ hS => ⟨a, ns, rfl, hS, hl, fun _ => rfl⟩) fun _ _ _ _ z => z
end K77
theorem PySem.W.Fast.tw8100467812628012203 : True := trivial
theorem PySem.W.Fast.tw12580474502703976005 : True := trivial
theorem PySem.W.Fast.tw17639055724348272063 : True := trivial
open PySem PySem.W PyProof.Rows
set_option maxRecDepth 100000 in
set_option maxHeartbeats 0 in
theorem PySem.Challenge.cw_stairlanes_k77_whole_any_rows_holds : PySem.Challenge.rw_stairlanes_k77_whole_any_rows.Holds := by
  w_on; o_law; k_head; (case hw => w_witness2)
  k_fill
  refine K77.walk (l := PySem.Challenge.rw_stairlanes_k77_whole_any_rows) rfl rfl (fun w h Y => PySem.W.kIn_of Y) ?F
  case F =>
    intro w mg fa h KX G hmg
    refine' K77.all_mk KX G hmg (K77.fn_at ?a1 ?l1 ?c1 ?k1) (K77.fn_at ?a2 ?l2 ?c2 ?k2) (K77.fn_at ?a3 ?l3 ?c3 ?k3) (K77.fn_at ?a4 ?l4 ?c4 ?k4) (K77.fn_at ?a5 ?l5 ?c5 ?k5) (K77.fn_at ?a6 ?l6 ?c6 ?k6) (K77.fn_at ?a7 ?l7 ?c7 ?k7) (K77.fn_at ?a8 ?l8 ?c8 ?k8) (K77.fn_at ?a9 ?l9 ?c9 ?k9) (K77.fn_at ?a10 ?l10 ?c10 ?k10) (K77.fn_at ?a11 ?l11 ?c11 ?k11) (K77.fn_at ?a12 ?l12 ?c12 ?k12) (K77.fn_at ?a13 ?l13 ?c13 ?k13) (K77.fn_at ?a14 ?l14 ?c14 ?k14) (K77.fn_at ?a15 ?l15 ?c15 ?k15) (K77.fn_at ?a16 ?l16 ?c16 ?k16) (K77.fn_at ?a17 ?l17 ?c17 ?k17) (K77.fn_at ?a18 ?l18 ?c18 ?k18) (K77.fn_at ?a19 ?l19 ?c19 ?k19) (K77.fn_at ?a20 ?l20 ?c20 ?k20) (K77.fn_at ?a21 ?l21 ?c21 ?k21) (K77.fn_at ?a22 ?l22 ?c22 ?k22) (K77.fn_at ?a23 ?l23 ?c23 ?k23) (K77.fn_at ?a24 ?l24 ?c24 ?k24) (K77.fn_at ?a25 ?l25 ?c25 ?k25) (K77.fn_at ?a26 ?l26 ?c26 ?k26) (K77.fn_at ?a27 ?l27 ?c27 ?k27) ?z1 ?z2 ?z3 ?z4 ?z5 ?z6 ?z7 ?z8 ?z9 ?z10 ?z11 ?z12 ?z13 ?z14 ?z15 ?z16 ?z17 ?zk0 ?zk1 ?zk2 ?zk3 ?aL ?aG ?aD ?aO ?aN ?aE ?lG ?lN ?uN ?iG (K77.init_at ?lI ?cI ?kI) ?cCL ?lM ?uM ?iM ?seG ?kpG ?spL ?rdL ?fdL ?x1 ?x2 ?x3 ?x4 ?x5 ?x6 ?x7 ?x8 ?y1 ?y2 ?y3 ?y4 ?y5D ?cCD ?y6D ?y7D ?y5O ?cCO ?y6O ?y7O ?y5N ?cCN ?y6N ?y7N ?y5E ?cCE ?y6E ?y7E ?y8 ?y9 ?y0 ?nap
    (case a1 => k_is); (case l1 => k_is); (case c1 => k_is); (case k1 => k_is)
    (case a2 => k_is); (case l2 => k_is); (case c2 => k_is); (case k2 => k_is)
    (case a3 => k_is); (case l3 => k_is); (case c3 => k_is); (case k3 => k_is)
    (case a4 => k_is); (case l4 => k_is); (case c4 => k_is); (case k4 => k_is)
    (case a5 => k_is); (case l5 => k_is); (case c5 => k_is); (case k5 => k_is)
    (case a6 => k_is); (case l6 => k_is); (case c6 => k_is); (case k6 => k_is)
    (case a7 => k_is); (case l7 => k_is); (case c7 => k_is); (case k7 => k_is)
    (case a8 => k_is); (case l8 => k_is); (case c8 => k_is); (case k8 => k_is)
    (case a9 => k_is); (case l9 => k_is); (case c9 => k_is); (case k9 => k_is)
    (case a10 => k_is); (case l10 => k_is); (case c10 => k_is); (case k10 => k_is)
    (case a11 => k_is); (case l11 => k_is); (case c11 => k_is); (case k11 => k_is)
    (case a12 => k_is); (case l12 => k_is); (case c12 => k_is); (case k12 => k_is)
    (case a13 => k_is); (case l13 => k_is); (case c13 => k_is); (case k13 => k_is)
    (case a14 => k_is); (case l14 => k_is); (case c14 => k_is); (case k14 => k_is)
    (case a15 => k_is); (case l15 => k_is); (case c15 => k_is); (case k15 => k_is)
    (case a16 => k_is); (case l16 => k_is); (case c16 => k_is); (case k16 => k_is)
    (case a17 => k_is); (case l17 => k_is); (case c17 => k_is); (case k17 => k_is)
    (case a18 => k_is); (case l18 => k_is); (case c18 => k_is); (case k18 => k_is)
    (case a19 => k_is); (case l19 => k_is); (case c19 => k_is); (case k19 => k_is)
    (case a20 => k_is); (case l20 => k_is); (case c20 => k_is); (case k20 => k_is)
    (case a21 => k_is); (case l21 => k_is); (case c21 => k_is); (case k21 => k_is)
    (case a22 => k_is); (case l22 => k_is); (case c22 => k_is); (case k22 => k_is)
    (case a23 => k_is); (case l23 => k_is); (case c23 => k_is); (case k23 => k_is)
    (case a24 => k_is); (case l24 => k_is); (case c24 => k_is); (case k24 => k_is)
    (case a25 => k_is); (case l25 => k_is); (case c25 => k_is); (case k25 => k_is)
    (case a26 => k_is); (case l26 => k_is); (case c26 => k_is); (case k26 => k_is)
    (case a27 => k_is); (case l27 => k_is); (case c27 => k_is); (case k27 => k_is)
    (case z1 => k_is)
    (case z2 => k_is)
    (case z3 => k_is)
    (case z4 => k_is)
    (case z5 => k_is)
    (case z6 => k_is)
    (case z7 => k_is)
    (case z8 => k_is)
    (case z9 => k_is)
    (case z10 => k_is)
    (case z11 => k_is)
    (case z12 => k_is)
    (case z13 => k_is)
    (case z14 => k_is)
    (case z15 => k_is)
    (case z16 => k_is)
    (case z17 => k_is)
    (case zk0 => k_is)
    (case zk1 => k_is)
    (case zk2 => k_is)
    (case zk3 => k_is)
    (case aL => k_is)
    (case aG => k_is)
    (case aD => k_is)
    (case aO => k_is)
    (case aN => k_is)
    (case aE => k_is)
    (case lG => k_is)
    (case lN => k_is)
    (case uN => simp [PySem.W.nsOkIn, List.lookup])
    (case iG => k_is)
    (case lI => k_is)
    (case cI => k_is)
    (case kI => k_is)
    (case cCL => k_is)
    (case lM => k_is)
    (case uM => simp [PySem.W.nsOkIn, List.lookup])
    (case iM => k_is)
    (case seG => k_is)
    (case kpG => k_is)
    (case spL => k_is)
    (case rdL => k_is)
    (case fdL => k_is)
    (case x1 => k_is)
    (case x2 => k_is)
    (case x3 => k_is)
    (case x4 => k_is)
    (case x5 => k_is)
    (case x6 => k_is)
    (case x7 => k_is)
    (case x8 => k_is)
    (case y1 => k_is)
    (case y2 => k_is)
    (case y3 => k_is)
    (case y4 => rfl)
    (case y5D => rfl)
    (case cCD => k_is)
    (case y6D => k_is)
    (case y7D => k_is)
    (case y5O => rfl)
    (case cCO => k_is)
    (case y6O => k_is)
    (case y7O => k_is)
    (case y5N => rfl)
    (case cCN => k_is)
    (case y6N => k_is)
    (case y7N => k_is)
    (case y5E => rfl)
    (case cCE => k_is)
    (case y6E => k_is)
    (case y7E => k_is)
    (case y8 => rfl)
    (case y9 => rfl)
    (case y0 => k_is)
    (case nap => k_is)
