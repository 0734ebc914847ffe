import PyProof.Rows.All
import Wide.All
import OpenK.AllK
import Wide.FinOn
import Lean
import PyProof.EqAt
import PyProof.EqKinds
import PyProof.TupleCall
import PyProof.NeKinds
import KE.KIntText
import PyProof.TupleOfStr
import PyProof.ReprRoads
import KE.KSortTup
import KE.KItemsList
import KE.KDictSum
import PyProof.StrBlockL
import PyProof.StrLawsTight
import PyProof.StrWalks
import PyProof.SliceStr2
import PyProof.StrLawsIdx
import PyProof.Rows.ReprOcc
import PyProof.Rows.StrBin
import PyProof.CollectIter
import PyProof.Rows.FStr
import KE.KTryMore
import KE.KLam
import KE.KNestM
import PyProof.Defs
import PySem.Challenge.RW_stairlanes_k26_tellers_refuse
set_option Elab.async false
set_option linter.all false
set_option maxRecDepth 100000
namespace L2
open PySem PySem.Spec PyProof.Rows
abbrev Key := Sum Int Str
def keyIs : Key → Value → Bool
  | .inl k, v => Value.isInt k v
  | .inr x, v => Value.isStrOf x v
def keyH (w : World) : Key → Int
  | .inl k => hashInt k
  | .inr x => hashStr w x
theorem keyIs_shape : ∀ {k : Key} {v : Value}, keyIs k v = true → (∃ i t, k = Sum.inl i ∧ v = Value.int i t) ∨ (∃ x t, k = Sum.inr x ∧ v = Value.str x t)
  | .inl i, v, h => by
    obtain ⟨t, e⟩ := Value.isInt_shape (k := i) (v := v) h
    exact .inl ⟨i, t, rfl, e⟩
  | .inr x, v, h => by
    obtain ⟨t, e⟩ := Value.isStrOf_shape (x := x) (v := v) h
    exact .inr ⟨x, t, rfl, e⟩
theorem keyIs_int (i : Int) (t : Tok) : keyIs (.inl i) (.int i t) = true := by simp [keyIs, Value.isInt]
theorem keyIs_str (x : Str) (t : Tok) : keyIs (.inr x) (.str x t) = true := by simp [keyIs, Value.isStrOf]
theorem key_ll (a b : Int) : decide ((Sum.inl a : Key) = Sum.inl b) = (a == b) := by
  by_cases e : a = b
  · subst e; simp
  · have h : ¬ (Sum.inl a : Key) = Sum.inl b := fun q => e (Sum.inl.inj q)
    rw [decide_eq_false h]
    exact (beq_eq_false_iff_ne.mpr e).symm
theorem key_rr (a b : Str) : decide ((Sum.inr a : Key) = Sum.inr b) = decide (a = b) := by
  by_cases e : a = b
  · subst e; simp
  · have h : ¬ (Sum.inr a : Key) = Sum.inr b := fun q => e (Sum.inr.inj q)
    rw [decide_eq_false h, decide_eq_false e]
theorem key_lr (a : Int) (b : Str) : decide ((Sum.inl a : Key) = Sum.inr b) = false := decide_eq_false (fun q => nomatch q)
theorem key_rl (a : Str) (b : Int) : decide ((Sum.inr a : Key) = Sum.inl b) = false := decide_eq_false (fun q => nomatch q)

def mixKind (prog : Program) (w : World) : PySem.KeyKind prog w Key where
  is := keyIs
  hash := keyH w
  inj := fun v a b ha hb => by
    rcases keyIs_shape ha with ⟨i, t, rfl, rfl⟩ | ⟨x, t, rfl, rfl⟩
    · rcases keyIs_shape hb with ⟨j, u, rfl, e⟩ | ⟨y, u, rfl, e⟩
      · injection e with e1 _; rw [e1]
      · exact nomatch e
    · rcases keyIs_shape hb with ⟨j, u, rfl, e⟩ | ⟨y, u, rfl, e⟩
      · exact nomatch e
      · injection e with e1 _; rw [e1]
  byValue := fun k v h => by
    rcases keyIs_shape h with ⟨i, t, rfl, rfl⟩ | ⟨x, t, rfl, rfl⟩ <;> rfl
  pyHash := fun hv h => by
    rcases keyIs_shape hv with ⟨i, t, rfl, rfl⟩ | ⟨x, t, rfl, rfl⟩
    · exact wpAny_pyHash_int h
    · exact wpAny_pyHash_str h
  eqBool := fun hu hv h => by
    rcases keyIs_shape hu with ⟨i, t, rfl, rfl⟩ | ⟨x, t, rfl, rfl⟩
    · rcases keyIs_shape hv with ⟨j, u, rfl, rfl⟩ | ⟨y, u, rfl, rfl⟩
      · rw [key_ll] at h; exact wpAny_eqBool_int h
      · rw [key_lr] at h; exact SeqAt.EqAt.int_str i t y u _ _ _ _ h
    · rcases keyIs_shape hv with ⟨j, u, rfl, rfl⟩ | ⟨y, u, rfl, rfl⟩
      · rw [key_rl] at h; exact SeqAt.EqAt.str_int x t j u _ _ _ _ h
      · rw [key_rr] at h; exact wpAny_eqBool_str h
  «strs» := fun k x t v h => by
    rcases keyIs_shape h with ⟨i, u, rfl, e⟩ | ⟨y, u, rfl, e⟩
    · exact nomatch e
    · injection e with e1 _
      subst e1
      cases v <;> rfl

theorem mixKind_int (prog : Program) (w : World) (i : Int) (t : Tok) : (mixKind prog w).is (.inl i) (.int i t) = true := keyIs_int i t
theorem mixKind_str (prog : Program) (w : World) (x : Str) (t : Tok) : (mixKind prog w).is (.inr x) (.str x t) = true := keyIs_str x t
end L2

namespace L2
open PySem PySem.Spec PyProof.Rows
inductive V where
  | non | bl (b : Bool) | int (i : Int) | str (x : Str) | byt (b : Array UInt8) | flt (b : UInt64) | ref (a : Addr) | ty (n : String)
  deriving DecidableEq

def RelV : V → Value → Prop
  | .non, u => u = Value.none
  | .bl b, u => u = Value.bool b
  | .int i, u => ∃ t, u = Value.int i t
  | .str x, u => ∃ t, u = Value.str x t
  | .byt b, u => ∃ t, u = Value.bytes b t
  | .flt b, u => ∃ t, u = Value.float b t
  | .ref a, u => u = Value.ref a
  | .ty n, u => u = Value.type n

abbrev Vals : List V → List Value → Prop := Paired RelV
theorem Vals.length {xs : List V} {us : List Value} (r : Vals xs us) : xs.length = us.length := Paired.length r
theorem Vals.get : ∀ {xs : List V} {us : List Value} {i : Nat} {x : V}, Vals xs us → xs[i]? = some x → ∃ u, us[i]? = some u ∧ RelV x u
  | _, _, _, _, .nil, e => by simp at e
  | _, _, 0, _, .cons r _, e => by simp at e; subst e; exact ⟨_, rfl, r⟩
  | _, _, i + 1, x, .cons _ t, e => by
    obtain ⟨u, h1, h2⟩ := Vals.get (i := i) (x := x) t (by simpa using e)
    exact ⟨u, by simpa using h1, h2⟩
theorem Vals.set {x : V} {u : Value} (r : RelV x u) : ∀ {xs : List V} {us : List Value} (i : Nat), Vals xs us → Vals (xs.set i x) (us.set i u)
  | _, _, _, .nil => .nil
  | _, _, 0, .cons _ t => .cons r t
  | _, _, i + 1, .cons q t => .cons q (Vals.set r i t)
theorem Vals.append : ∀ {xs ys : List V} {us ws : List Value}, Vals xs us → Vals ys ws → Vals (xs ++ ys) (us ++ ws)
  | _, _, _, _, .nil, s => s
  | _, _, _, _, .cons r t, s => .cons r (Vals.append t s)
theorem Vals.take : ∀ {xs : List V} {us : List Value} (n : Nat), Vals xs us → Vals (xs.take n) (us.take n)
  | _, _, 0, _ => .nil
  | _, _, _ + 1, .nil => .nil
  | _, _, n + 1, .cons r t => .cons r (Vals.take n t)
theorem Vals.drop : ∀ {xs : List V} {us : List Value} (n : Nat), Vals xs us → Vals (xs.drop n) (us.drop n)
  | _, _, 0, r => r
  | _, _, _ + 1, .nil => .nil
  | _, _, n + 1, .cons _ t => Vals.drop n t
def RelO : Option V → Option Value → Prop
  | some v, some u => RelV v u
  | none, none => True
  | _, _ => False
def KV {κ : Type} : List (κ × V) → List (κ × Value) → Prop := Paired fun (p : κ × V) (q : κ × Value) => p.1 = q.1 ∧ RelV p.2 q.2
def kV : Key → V
  | .inl i => .int i
  | .inr x => .str x
inductive HO where
  | lst (xs : List V)
  | tup (xs : List V)
  | dK (kvs : List (Key × V)) | dT (kvs : List (List Key × V))
  | set (S : Int → Bool) (n : Nat)
  | ins (C dx : Addr) (fs : List (Str × V))
  | own (x : Addr)
  | xd (fs : List (Str × V))
  | met (f x : Addr)
  | rng (lo hi : Int)
  | frz (o : Obj) (u : HO)
  | tbl (ps : Array Value)
  | ext (φ : Heap → Prop)

abbrev Hp := Addr → Option HO
def upd (H : Hp) (a : Addr) (o : HO) : Hp := fun b => if b = a then some o else H b
theorem upd_same {H : Hp} {a : Addr} {o : HO} : upd H a o a = some o := by unfold upd; rw [if_pos rfl]
theorem upd_ne {H : Hp} {a b : Addr} {o : HO} (h : b ≠ a) : upd H a o b = H b := by unfold upd; rw [if_neg h]
theorem ne_of {H : Hp} {a b : Addr} {o u : HO} (h : H a = some o) (h' : H b = some u) (d : o ≠ u) : a ≠ b := by
  intro e; subst e; rw [h] at h'; exact d (Option.some.inj h')
theorem ne_of_none {H : Hp} {a b : Addr} {o : HO} (h : H a = some o) (h' : H b = none) : a ≠ b := by
  intro e; subst e; rw [h] at h'; cases h'
def TupX (h : Heap) (a : Addr) (items : Array Value) : Prop := ∃ o, h.get? a = some o ∧ o.cls = .type "tuple" ∧ ∃ n, o.data = .seq items n ∧ o.dict = none
theorem TupX.tup {h : Heap} {a : Addr} {items : Array Value} (x : TupX h a items) : IsTup h a items := let ⟨o, e, c, n, d, _⟩ := x; ⟨o, e, c, n, d⟩
theorem TupX.new (h : Heap) (items : Array Value) : TupX (h.push { cls := .type "tuple", data := .seq items }) h.objs.size items := ⟨_, Heap.get?_push_size _ rfl, rfl, 0, rfl, rfl⟩
section
variable (P : Program) (w : World)
def ObjOk (H : Hp) (h : Heap) (a : Addr) : HO → Prop
  | .lst xs => xs.length ≤ sizeLine ∧ ∃ (its : List Value) (n : Nat), Vals xs its ∧ h.get? a = some { cls := .type "list", data := .seq its.toArray n }
  | .tup xs => xs.length ≤ sizeLine ∧ ∃ its : List Value, Vals xs its ∧ TupX h a its.toArray
  | .dK kvs => kvs.length ≤ sizeLine ∧ (a == sysModules) = false ∧ ∃ vs, KV kvs vs ∧ h.DictOf (mixKind P w) a vs
  | .dT kvs => kvs.length ≤ sizeLine ∧ (a == sysModules) = false ∧ ∃ xs : List (List Key × Addr × Value),
      Paired (fun (p : List Key × V) (q : List Key × Addr × Value) => p.1 = q.1 ∧ H q.2.1 = some (.tup (p.1.map kV)) ∧ RelV p.2 q.2.2) kvs xs ∧
      ∃ o es ep, h.get? a = some o ∧ o.ExactDict ∧ o.data = .dict es ep ∧ es.toList = xs.map (entryOfKey (tupleKind (mixKind P w))) ∧ (xs.map (·.1)).Nodup
  | .set S n => h.SetOf (intKind P w) a S n
  | .ins C dx fs => H dx = some (.own a) ∧ fs.length ≤ 1000 ∧ dx ≠ a ∧ h.get? a = some (PySem.W.instObj C dx) ∧
      ∃ mA, h.Ns1 dx mA ∧ (∀ f, RelO (fs.lookup f) (mA f)) ∧ PySem.Within mA (fs.map (·.1))
  | .own _ => ∃ o, h.get? a = some o
  | .xd fs => ∃ mA, h.Ns1 a mA ∧ ∀ f, RelO (fs.lookup f) (mA f)
  | .rng lo hi => ∃ t u v, h.get? a = some { cls := .type "range", data := .fields #[.int lo t, .int hi u, .int 1 v] }
  | .frz o u => h.get? a = some o ∧ ObjOk H h a u
  | .tbl ps => h.get? a = some { cls := .none, data := .fields ps }
  | .met f x => h.get? a = some (PySem.W.methodObj (.ref f) (.ref x))
  | .ext φ => φ h ∧ (∃ o, h.get? a = some o) ∧ ∀ h1 h2 : Heap, φ h1 → (∀ o, h1.get? a = some o → h2.get? a = some o) → φ h2
def HOk (H : Hp) (h : Heap) : Prop := ∀ a o, H a = some o → ObjOk P w H h a o
end

section
variable {P : Program} {w : World} {H H' : Hp} {h h' : Heap} {a : Addr} {o : HO}
theorem ObjOk.lt (x : ObjOk P w H h a o) : a < h.objs.size := by
  cases o with
  | lst xs => obtain ⟨_, _, _, _, e⟩ := x; exact Heap.lt_size e
  | tup xs => obtain ⟨_, _, _, p⟩ := x; exact p.tup.lt
  | dK kvs => obtain ⟨_, _, _, _, o, _, _, e, _⟩ := x; exact Heap.lt_size e
  | dT kvs => obtain ⟨_, _, _, _, o, _, _, e, _⟩ := x; exact Heap.lt_size e
  | set S n => obtain ⟨o, _, _, _, e, _⟩ := x; exact Heap.lt_size e
  | ins C dx fs => obtain ⟨_, _, _, e, _⟩ := x; exact Heap.lt_size e
  | own y => obtain ⟨_, e⟩ := x; exact Heap.lt_size e
  | xd fs => obtain ⟨_, ⟨_, _, _, e, _⟩, _⟩ := x; exact Heap.lt_size e
  | rng lo hi => obtain ⟨_, _, _, e⟩ := x; exact Heap.lt_size e
  | frz ob u => obtain ⟨e, _⟩ := x; exact Heap.lt_size e
  | tbl ps => exact Heap.lt_size (show h.get? a = some _ from x)
  | met f y => exact Heap.lt_size (show h.get? a = some _ from x)
  | ext φ => obtain ⟨_, ⟨_, e⟩, _⟩ := x; exact Heap.lt_size e
theorem Paired.mapP {α β : Type} {F G : α → β → Prop} : ∀ {l₁ : List α} {l₂ : List β}, Paired F l₁ l₂ → (∀ a b, F a b → G a b) → Paired G l₁ l₂
  | _, _, .nil, _ => .nil
  | _, _, .cons r t, f => .cons (f _ _ r) (Paired.mapP t f)
theorem ObjOk.stay (x : ObjOk P w H h a o) (k : ∀ b u, (b = a ∨ H b = some (.own a)) → h.get? b = some u → h'.get? b = some u)
    (ho : ∀ b, H b = some (.own a) → H' b = some (.own a)) (ht : ∀ b xs, H b = some (.tup xs) → H' b = some (.tup xs)) : ObjOk P w H' h' a o := by
  induction o with
  | lst xs => obtain ⟨z, its, n, r, e⟩ := x; exact ⟨z, its, n, r, k _ _ (.inl rfl) e⟩
  | tup xs => obtain ⟨z, its, r, ob, e, c⟩ := x; exact ⟨z, its, r, ob, k _ _ (.inl rfl) e, c⟩
  | dK kvs => obtain ⟨z, y, vs, r, ob, es, ep, e, c⟩ := x; exact ⟨z, y, vs, r, ob, es, ep, k _ _ (.inl rfl) e, c⟩
  | dT kvs =>
    obtain ⟨z, y, xs, r, ob, es, ep, e, c⟩ := x
    exact ⟨z, y, xs, Paired.mapP r fun p q z => ⟨z.1, ht _ _ z.2.1, z.2.2⟩, ob, es, ep, k _ _ (.inl rfl) e, c⟩
  | set S n => obtain ⟨ob, es, ep, t, e, c⟩ := x; exact ⟨ob, es, ep, t, k _ _ (.inl rfl) e, c⟩
  | ins C dx fs =>
    obtain ⟨d, z, ne, e, mA, ⟨od, es, ep, e2, c⟩, r⟩ := x
    exact ⟨ho _ d, z, ne, k _ _ (.inl rfl) e, mA, ⟨od, es, ep, k _ _ (.inr d) e2, c⟩, r⟩
  | own y => obtain ⟨ob, e⟩ := x; exact ⟨ob, k _ _ (.inl rfl) e⟩
  | xd fs => obtain ⟨mA, ⟨od, es, ep, e, c⟩, r⟩ := x; exact ⟨mA, ⟨od, es, ep, k _ _ (.inl rfl) e, c⟩, r⟩
  | rng lo hi => obtain ⟨t, u, v, e⟩ := x; exact ⟨t, u, v, k _ _ (.inl rfl) e⟩
  | frz ob u ih => obtain ⟨e, q⟩ := x; exact ⟨k _ _ (.inl rfl) e, ih q⟩
  | tbl ps =>
    have e : h.get? a = some { cls := .none, data := .fields ps } := x
    show h'.get? a = some { cls := .none, data := .fields ps }
    exact k a _ (.inl rfl) e
  | met f y =>
    have e : h.get? a = some (PySem.W.methodObj (.ref f) (.ref y)) := x
    show h'.get? a = some (PySem.W.methodObj (.ref f) (.ref y))
    exact k a _ (.inl rfl) e
  | ext φ => obtain ⟨p, ⟨o, e⟩, st⟩ := x; exact ⟨st _ _ p fun o q => k _ _ (.inl rfl) q, ⟨o, k _ _ (.inl rfl) e⟩, st⟩
theorem HOk.lt (x : HOk P w H h) (e : H a = some o) : a < h.objs.size := (x a o e).lt
theorem HOk.fresh (x : HOk P w H h) (e : h.objs.size ≤ a) : H a = none := by
  cases q : H a with
  | none => rfl
  | some u => exact absurd (Nat.lt_of_lt_of_le (x.lt q) e) (Nat.lt_irrefl _)
theorem HOk.kept (x : HOk P w H h) (k : ∀ b u, h.get? b = some u → h'.get? b = some u) : HOk P w H h' := fun a o e =>
  (x a o e).stay (fun b u _ q => k b u q) (fun _ q => q) fun _ _ q => q
theorem HOk.laid (x : HOk P w H h) (k : ∀ b u, h.get? b = some u → h'.get? b = some u) (hp : h.objs.size ≤ a) (new : ObjOk P w (upd H a o) h' a o) : HOk P w (upd H a o) h' := fun b u e => by
  have hn := x.fresh hp
  by_cases hb : b = a
  · subst hb; rw [upd_same] at e; cases e; exact new
  · rw [upd_ne hb] at e
    exact (x b u e).stay (fun c v _ q => k c v q) (fun c q => by rw [upd_ne (ne_of_none q hn)]; exact q) fun c xs q => by rw [upd_ne (ne_of_none q hn)]; exact q
end
def Rd (H : Hp) (a : Addr) (u : HO) : Prop := H a = some u ∨ ∃ o, H a = some (.frz o u)
theorem Rd.ok {P : Program} {w : World} {H : Hp} {h : Heap} {a : Addr} {u : HO} (r : Rd H a u) (x : HOk P w H h) : ObjOk P w H h a u := by
  rcases r with r | ⟨o, r⟩
  · exact x a u r
  · obtain ⟨_, q⟩ := x a _ r
    exact q
def Mut : Option HO → Prop
  | some (.lst _) => True
  | some (.dK _) => True
  | some (.dT _) => True
  | some (.set _ _) => True
  | some (.ins _ _ _) => True
  | some (.ext _) => True
  | _ => False
section
variable {P : Program} {w : World} {H : Hp} {h h' : Heap} {x e : Addr} {o' : HO}
theorem HOk.write (ok : HOk P w H h) (mu : Mut (H x)) (he : e = x ∨ H e = some (.own x)) (k : ∀ b u, b ≠ e → h.get? b = some u → h'.get? b = some u) (heo : ∃ u, h'.get? e = some u)
    (new : ObjOk P w (upd H x o') h' x o') : HOk P w (upd H x o') h' := fun b u q => by
  have nown : ∀ c y, H c = some (.own y) → c ≠ x := fun c y r z => by subst z; rw [r] at mu; exact mu
  have ntup : ∀ c xs, H c = some (.tup xs) → c ≠ x := fun c xs r z => by subst z; rw [r] at mu; exact mu
  by_cases hb : b = x
  · subst hb; rw [upd_same] at q; cases q; exact new
  · rw [upd_ne hb] at q
    by_cases hbe : b = e
    · have q' : H b = some (.own x) := by
        rcases he with z | z
        · exact absurd (hbe.trans z) hb
        · rw [hbe]; exact z
      rw [q] at q'; cases q'
      obtain ⟨v, hv⟩ := heo
      exact ⟨v, by rw [hbe]; exact hv⟩
    · refine (ok b u q).stay (fun c v hc r => k c v ?_ r) (fun c r => by rw [upd_ne (nown c b r)]; exact r) fun c xs r => by rw [upd_ne (ntup c xs r)]; exact r
      rcases hc with rfl | hc
      · exact hbe
      · rintro rfl
        rcases he with z | z
        · exact nown c b hc z
        · rw [hc] at z; cases z; exact hb rfl
end
structure Un (fs ex : List Addr) (H H' : Hp) (h h' : Heap) : Prop where
  keep : ∀ b o, h.get? b = some o → H b = none → b ∉ fs → b ∉ ex → h'.get? b = some o
  slot : ∀ b o, h.get? b = some o → H b = none → b ∈ fs → b ∉ ex → ∃ sl, h'.get? b = some { o with slots := sl }
  free : ∀ b o, h.get? b = some o → H b = none → b ∉ ex → H' b = none
  there : ∀ b o, h.get? b = some o → b ∉ ex → ∃ o', h'.get? b = some o'
  tups : ∀ b xs, H b = some (.tup xs) → H' b = some (.tup xs)
  frzs : ∀ b o u, H b = some (.frz o u) → H' b = some (.frz o u)
  tbls : ∀ b ps, H b = some (.tbl ps) → ∃ more, H' b = some (.tbl (ps ++ more))
section
variable {fs fs' ex ex' : List Addr} {H H1 H2 : Hp} {h h1 h2 h' : Heap} {a x e : Addr} {o : HO}
theorem Un.any (u : Un fs ex H H1 h h1) {b : Addr} {ob : Obj} (q : h.get? b = some ob) (n : H b = none) (hx : b ∉ ex) : ∃ sl, h1.get? b = some { ob with slots := sl } := by
  by_cases hb : b ∈ fs
  · exact u.slot b ob q n hb hx
  · exact ⟨ob.slots, u.keep b ob q n hb hx⟩
theorem Un.kept (k : ∀ b u, h.get? b = some u → h'.get? b = some u) : Un fs ex H H h h' :=
  ⟨fun b ob q _ _ _ => k b ob q, fun b ob q _ _ _ => ⟨ob.slots, k b ob q⟩, fun _ _ _ n _ => n, fun b ob q _ => ⟨ob, k b ob q⟩, fun _ _ q => q, fun _ _ _ q => q, fun _ ps q => ⟨#[], by rw [q]; simp⟩⟩
theorem Un.refl : Un fs ex H H h h := Un.kept fun _ _ q => q
theorem Un.laid (k : ∀ b u, h.get? b = some u → h'.get? b = some u) (hp : h.objs.size ≤ a) (hn : H a = none) : Un fs ex H (upd H a o) h h' where
  keep := fun b u q _ _ _ => k b u q
  slot := fun b u q _ _ _ => ⟨u.slots, k b u q⟩
  free := fun b u q n _ => by rw [upd_ne (Nat.ne_of_lt (Nat.lt_of_lt_of_le (Heap.lt_size q) hp))]; exact n
  there := fun b u q _ => ⟨u, k b u q⟩
  tups := fun b xs q => by rw [upd_ne (ne_of_none q hn)]; exact q
  frzs := fun b u xs q => by rw [upd_ne (ne_of_none q hn)]; exact q
  tbls := fun b ps q => ⟨#[], by rw [upd_ne (ne_of_none q hn), q]; simp⟩
theorem Un.write (mu : Mut (H x)) (he : e = x ∨ H e = some (.own x)) (k : ∀ b u, b ≠ e → h.get? b = some u → h'.get? b = some u) (heo : ∃ u, h'.get? e = some u) : Un fs ex H (upd H x o) h h' := by
  have hx : ∀ b, H b = none → b ≠ x := fun b n z => by subst z; rw [n] at mu; exact mu
  have hb : ∀ b, H b = none → b ≠ e := fun b n z => by
    subst z
    rcases he with r | r
    · exact hx b n r
    · rw [n] at r; cases r
  have hm : ∀ b u, H b = some u → ¬ Mut (some u) → b ≠ x := fun b u q nm z => by subst z; rw [q] at mu; exact nm mu
  refine ⟨fun b u q n _ _ => k b u (hb b n) q, fun b u q n _ _ => ⟨u.slots, k b u (hb b n) q⟩, fun b u q n _ => by rw [upd_ne (hx b n)]; exact n, fun b u q _ => ?_,
    fun b xs q => by rw [upd_ne (hm b _ q fun z => z)]; exact q, fun b u xs q => by rw [upd_ne (hm b _ q fun z => z)]; exact q, fun b ps q => ⟨#[], by rw [upd_ne (hm b _ q fun z => z), q]; simp⟩⟩
  by_cases hbe : b = e
  · subst hbe; exact heo
  · exact ⟨u, k b u hbe q⟩
end
def trk (h : Heap) (H : Hp) : List Addr := (List.range h.objs.size).filter fun a => (H a).isSome
def hidT (h : Heap) (H : Hp) : Heap := PySem.W.hideAll h (trk h H)
theorem hidT_size (h : Heap) (H : Hp) : (hidT h H).objs.size = h.objs.size := PySem.W.hideAll_size _ _
theorem hidT_get {h : Heap} {H : Hp} {b : Addr} {o : Obj} (e : h.get? b = some o) (n : H b = none) : (hidT h H).get? b = some o :=
  PySem.W.hideAll_get _ e fun hm => by
    have q : (H b).isSome = true := (List.mem_filter.mp hm).2
    rw [n] at q; simp at q
theorem of_hidT {h : Heap} {H : Hp} {b : Addr} {o : Obj} (e : (hidT h H).get? b = some o) : h.get? b = some o ∧ H b = none := by
  have e' : h.get? b = some o := PySem.W.of_hideAll (trk h H) e
  refine ⟨e', ?_⟩
  cases q : H b with
  | none => rfl
  | some x =>
    have hm : b ∈ trk h H := List.mem_filter.mpr ⟨List.mem_range.mpr (Heap.lt_size e'), by simp [q]⟩
    have z : (hidT h H).get? b = none := PySem.W.hideAll_none (trk h H) hm
    rw [z] at e; cases e
def allNews (g h : Heap) (L : Addr) : List (Addr × Obj) := (List.range h.objs.size).filterMap fun a => if a = L ∨ (g.get? a).isSome = true then none else (h.get? a).map fun o => (a, o)
def rest (g h : Heap) (L d : Addr) : List (Addr × Obj) := (allNews g h L).filter fun p => decide (p.1 ≠ d)
end L2

namespace L2
open PySem PySem.Spec PyProof.Rows
structure Mod (K : PySem.W.Frag) (mg : Str → Option Value) (base : Heap) : Prop where
  kin : K.In base
  glob : base.Ns mainGlobals mg
  blt : ∃ mb, base.Ns builtinsNs mb ∧ ∀ x : Str, x ≠ "__name__" → mb x = bootBuiltins x
  nolimit : base.NoLimit

/-- the context: a def's body (or a comprehension's block) running. base: fixed through the whole law; s₀, H₀: the entry; outer: the frames whose slots others may change (a def's callers); stack: all frames that run;
   ex: iterators that were made ahead of the entry and are walked here (a comprehension's); fn: the names whose cells were made at the entry (a def: all; a comprehension's block: its own); calm: not within an except suite; pn: pins that every state bears; xe: what is wanted of an exception that leaves the code -/
structure Cx where
  prog : Program
  w : World
  K : PySem.W.Frag
  mg : Str → Option Value
  base : Heap
  A : Around
  N : List Str
  s₀ : Shared
  H₀ : Hp
  env : Env
  outer : List Env
  stack : List Env
  ex : List Addr
  fn : Str → Bool
  calm : Bool
  pn : List (Addr × Obj)
  xe : Value → Shared → Prop
def frs (l : List Env) : List Addr := l.filterMap (·.frame)
abbrev Cx.fs (X : Cx) : List Addr := frs X.outer

def Vis (sc : Scope) (x : Str) : Prop := sc.names.lookup x = some .local ∨ sc.names.lookup x = some .cell ∨ sc.names.lookup x = some .free
def Loc (sc : Scope) (x : Str) : Prop := sc.names.lookup x = some .local ∨ sc.names.lookup x = some .cell
def Look (env : Env) (h : Heap) (m : Str → Option Value) (x : Str) (u : Value) : Prop :=
  (env.kindOf x = some .local ∧ m x = some u) ∨ ((env.kindOf x = some .cell ∨ env.kindOf x = some .free) ∧ ∃ c, env.cells.lookup x = some c ∧ h.IsCell c (some u))

structure Cx.Ok (X : Cx) : Prop where
  mod : Mod X.K X.mg X.base
  kind : X.env.scope.kind = .function
  glob : X.env.globals = mainGlobals
  blt : X.env.builtins = builtinsNs
  above : X.s₀.heap.objs.size ≤ X.env.locals
  inj : ∀ x y c, X.env.cells.lookup x = some c → X.env.cells.lookup y = some c → x = y
  has : ∀ x, (X.env.kindOf x = some .cell ∨ X.env.kindOf x = some .free) → ∃ c, X.env.cells.lookup x = some c
  cab : ∀ x c, X.fn x = true → X.env.cells.lookup x = some c → X.s₀.heap.objs.size ≤ c
  hd : X.calm = true → X.A.handled = none
  frames : X.A.frames = some X.stack
  stk : X.stack = X.outer ∨ (X.stack = X.env :: X.outer ∧ X.env.frame = some X.env.locals)
  exf : ∀ b ∈ X.ex, b ≠ X.env.locals ∧ ∀ x c, X.env.cells.lookup x = some c → c ≠ b
  bs : ∀ b o, X.base.get? b = some o → X.s₀.heap.get? b = some o ∧ X.H₀ b = none
  bsz : X.base.objs.size ≤ X.s₀.heap.objs.size
  noex : ∀ b o, X.base.get? b = some o → b ∉ X.ex
  exfs : ∀ b ∈ X.ex, b ∉ X.fs
  funs : X.s₀.heap.FunFrames X.base X.outer
  frf : ∀ b ∈ X.fs, X.H₀ b = none

structure Inv (X : Cx) (pins : List (Addr × Obj)) (σ : List (Option V)) (H : Hp) (s : Shared) : Prop where
  ok : X.Ok
  os : s.os = X.s₀.os
  bare : AllBare s.gens
  base : Un X.fs X.ex X.H₀ H X.s₀.heap s.heap
  loc : ∃ m, s.heap.Ns X.env.locals m ∧ ∀ (i : Nat) (x : Str) (v : V), X.N[i]? = some x → σ[i]? = some (some v) → Vis X.env.scope x → ∃ u, RelV v u ∧ Look X.env s.heap m x u
  cell : ∀ x c, X.env.cells.lookup x = some c → ∃ v, s.heap.IsCell c v
  free : H X.env.locals = none
  freeC : ∀ x c, X.env.cells.lookup x = some c → H c = none
  pin : ∀ p ∈ X.pn ++ pins, s.heap.get? p.1 = some p.2 ∧ H p.1 = none ∧ p.1 ≠ X.env.locals ∧ p.1 ∉ X.fs ∧ ∀ v, p.2.data ≠ .cell v
  hok : HOk X.prog X.w H s.heap
  len : σ.length = X.N.length

section
variable {X : Cx} {pins : List (Addr × Obj)} {σ : List (Option V)} {H H' : Hp} {s : Shared} {h' : Heap}

theorem Cx.Ok.nofr (ok : X.Ok) {b : Addr} {o : Obj} (e : X.base.get? b = some o) : b ∉ X.fs := fun hb => by
  have := (ok.funs.mem hb).1
  rw [e] at this; cases this
theorem Inv.bs (I : Inv X pins σ H s) : ∀ b o, X.base.get? b = some o → s.heap.get? b = some o ∧ H b = none := fun b o e =>
  ⟨I.base.keep b o (I.ok.bs b o e).1 (I.ok.bs b o e).2 (I.ok.nofr e) (I.ok.noex b o e), I.base.free b o (I.ok.bs b o e).1 (I.ok.bs b o e).2 (I.ok.noex b o e)⟩
theorem Inv.bk (I : Inv X pins σ H s) : ∀ b o, X.base.get? b = some o → s.heap.get? b = some o := fun b o e => (I.bs b o e).1
theorem Inv.mod (I : Inv X pins σ H s) : Mod X.K X.mg X.base := I.ok.mod
theorem Inv.kIn (I : Inv X pins σ H s) : X.K.In s.heap := I.ok.mod.kin.keeps I.bk
theorem Inv.lt (I : Inv X pins σ H s) : X.env.locals < s.heap.objs.size := let ⟨_, hn, _⟩ := I.loc; hn.lt
theorem Inv.sz (I : Inv X pins σ H s) : X.s₀.heap.objs.size ≤ s.heap.objs.size := Nat.le_trans I.ok.above (Nat.le_of_lt I.lt)
theorem Inv.nofs (I : Inv X pins σ H s) {a : Addr} (h : s.heap.objs.size ≤ a) : a ∉ X.fs := fun hb => by
  obtain ⟨_, o, ho, _⟩ := I.ok.funs.mem hb
  exact absurd (Nat.lt_of_lt_of_le (Heap.lt_size ho) (Nat.le_trans I.sz h)) (Nat.lt_irrefl _)
theorem Inv.cne (I : Inv X pins σ H s) : ∀ x c, X.env.cells.lookup x = some c → c ≠ X.env.locals := fun x c e z => by
  obtain ⟨v, o, ho, hd⟩ := I.cell x c e
  obtain ⟨m, ⟨o', es, ep, ho', hd', _⟩, _⟩ := I.loc
  rw [z, ho'] at ho; cases ho; rw [hd'] at hd; cases hd
theorem Inv.funs (I : Inv X pins σ H s) : s.heap.FunFrames X.base X.outer := by
  have all : ∀ (l : List Env), (∀ b ∈ frs l, b ∈ X.fs) → X.s₀.heap.FunFrames X.base l → s.heap.FunFrames X.base l := by
    intro l
    induction l with
    | nil => intro _ _; trivial
    | cons env r ih =>
      intro hs hl
      obtain ⟨hk, ⟨L, o, hf, hn, ho, hd⟩, hr⟩ := hl
      have hL : L ∈ X.fs := hs L (by unfold frs; rw [List.filterMap_cons, hf]; exact List.mem_cons_self)
      obtain ⟨sl, e⟩ := I.base.slot L o ho (I.ok.frf L hL) hL fun z => I.ok.exfs L z hL
      exact ⟨hk, ⟨L, _, hf, hn, e, hd⟩, ih (fun b hb => hs b (by unfold frs; rw [List.filterMap_cons, hf]; exact List.mem_cons_of_mem _ hb)) hr⟩
  exact all X.outer (fun _ hb => hb) I.ok.funs
theorem Inv.stack (I : Inv X pins σ H s) : s.heap.FunFrames X.base X.stack := by
  rcases I.ok.stk with e | ⟨e, hf⟩
  · rw [e]; exact I.funs
  · rw [e]
    obtain ⟨m, hn, _⟩ := I.loc
    refine .cons (by rw [I.ok.kind]; decide) hf hn ?_ I.funs
    exact Heap.get?_none_of_le (Nat.le_trans I.ok.bsz I.ok.above)
theorem Inv.stkSub (I : Inv X pins σ H s) : ∀ b ∈ frs X.stack, b ∈ X.env.locals :: X.fs := fun b hb => by
  rcases I.ok.stk with e | ⟨e, hf⟩
  · rw [e] at hb; exact List.mem_cons_of_mem _ hb
  · rw [e] at hb
    unfold frs at hb
    rw [List.filterMap_cons, hf] at hb
    exact hb
theorem Inv.stkFree (I : Inv X pins σ H s) : ∀ b ∈ frs X.stack, H b = none := fun b hb => by
  rcases List.mem_cons.mp (I.stkSub b hb) with e | hb
  · rw [e]; exact I.free
  · obtain ⟨_, o, ho, _⟩ := I.ok.funs.mem hb
    exact I.base.free b o ho (I.ok.frf b hb) fun z => I.ok.exfs b z hb
theorem Inv.step {g' : Array GenState} {t' : Nat} {d' : Drawn} {ch : List Addr} (I : Inv X pins σ H s)
    (hch : ∀ b ∈ ch, (b ∈ X.ex ∨ X.s₀.heap.objs.size ≤ b) ∧ b ≠ X.env.locals ∧ (∀ x c, X.env.cells.lookup x = some c → c ≠ b) ∧ ∀ p ∈ X.pn ++ pins, p.1 ≠ b)
    (keep : ∀ b o, b ≠ X.env.locals → b ∉ X.fs → b ∉ ch → s.heap.get? b = some o → H b = none → h'.get? b = some o)
    (slot : ∀ b o, b ≠ X.env.locals → b ∈ X.fs → b ∉ ch → s.heap.get? b = some o → H b = none → ∃ sl, h'.get? b = some { o with slots := sl }) (free : ∀ b o, b ∉ ch → s.heap.get? b = some o → H b = none → H' b = none)
    (there : ∀ b o, b ∉ ch → s.heap.get? b = some o → ∃ o', h'.get? b = some o')
    (tups : ∀ b xs, H b = some (.tup xs) → H' b = some (.tup xs)) (frzs : ∀ b o u, H b = some (.frz o u) → H' b = some (.frz o u)) (tbls : ∀ b ps, H b = some (.tbl ps) → ∃ more, H' b = some (.tbl (ps ++ more)))
    (ns : ∀ m, s.heap.Ns X.env.locals m → h'.Ns X.env.locals m) (hok : HOk X.prog X.w H' h') (hg : AllBare g') :
    Inv X pins σ H' { s with heap := h', gens := g', drawn := d', toks := t' } := by
  have neL : ∀ b o, X.s₀.heap.get? b = some o → b ≠ X.env.locals := fun b o e => Nat.ne_of_lt (Nat.lt_of_lt_of_le (Heap.lt_size e) I.ok.above)
  have neC : ∀ b o, X.s₀.heap.get? b = some o → b ∉ X.ex → b ∉ ch := fun b o e hx hb => by
    rcases (hch b hb).1 with z | z
    · exact hx z
    · exact absurd (Nat.lt_of_lt_of_le (Heap.lt_size e) z) (Nat.lt_irrefl _)
  have cellK : ∀ x c, X.env.cells.lookup x = some c → ∀ v, s.heap.IsCell c v → h'.IsCell c v := fun x c e v ⟨o, ho, hd⟩ => by
    have nch : c ∉ ch := fun z => (hch c z).2.2.1 x c e rfl
    by_cases hc : c ∈ X.fs
    · obtain ⟨sl, q⟩ := slot c o (I.cne x c e) hc nch ho (I.freeC x c e)
      exact ⟨_, q, hd⟩
    · exact ⟨o, keep c o (I.cne x c e) hc nch ho (I.freeC x c e), hd⟩
  refine ⟨I.ok, I.os, hg, ⟨fun b o e n hb hx => ?_, fun b o e n hb hx => ?_, fun b o e n hx => ?_, fun b o e hx => ?_, fun b xs e => tups b xs (I.base.tups b xs e), fun b o xs e => frzs b o xs (I.base.frzs b o xs e), fun b ps e => ?_⟩, ?_, fun x c e => ?_, ?_, fun x c e => ?_, fun p hp => ?_, hok, I.len⟩
  · exact keep b o (neL b o e) hb (neC b o e hx) (I.base.keep b o e n hb hx) (I.base.free b o e n hx)
  · obtain ⟨sl, e1⟩ := I.base.slot b o e n hb hx
    obtain ⟨sl', e2⟩ := slot b _ (neL b o e) hb (neC b o e hx) e1 (I.base.free b o e n hx)
    exact ⟨sl', e2⟩
  · obtain ⟨o', e1⟩ := I.base.there b o e hx
    exact free b o' (neC b o e hx) e1 (I.base.free b o e n hx)
  · obtain ⟨o', e1⟩ := I.base.there b o e hx
    exact there b o' (neC b o e hx) e1
  · obtain ⟨m1, e1⟩ := I.base.tbls b ps e
    obtain ⟨m2, e2⟩ := tbls b _ e1
    exact ⟨m1 ++ m2, by rw [e2, Array.append_assoc]⟩
  · obtain ⟨m, hn, hl⟩ := I.loc
    refine ⟨m, ns m hn, fun i x v e1 e2 e3 => ?_⟩
    obtain ⟨u, r, l⟩ := hl i x v e1 e2 e3
    refine ⟨u, r, ?_⟩
    rcases l with l | ⟨k, c, e, z⟩
    · exact .inl l
    · exact .inr ⟨k, c, e, cellK x c e _ z⟩
  · obtain ⟨v, z⟩ := I.cell x c e
    exact ⟨v, cellK x c e v z⟩
  · obtain ⟨m, ⟨o, _, _, ho, _⟩, _⟩ := I.loc
    exact free _ o (fun z => (hch _ z).2.1 rfl) ho I.free
  · obtain ⟨v, o, ho, hd⟩ := I.cell x c e
    exact free c o (fun z => (hch c z).2.2.1 x c e rfl) ho (I.freeC x c e)
  · obtain ⟨e, n, ne, nf, d⟩ := I.pin p hp
    have nch : p.1 ∉ ch := fun z => (hch p.1 z).2.2.2 p hp rfl
    exact ⟨keep p.1 p.2 ne nf nch e n, free p.1 p.2 nch e n, ne, nf, d⟩
theorem Inv.un {t' : Nat} (I : Inv X pins σ H s) (u : Un X.fs [] H H' s.heap h') (hok : HOk X.prog X.w H' h') : Inv X pins σ H' { s with heap := h', toks := t' } := by
  obtain ⟨m, ⟨o, es, ep, ho, r⟩, _⟩ := id I.loc
  obtain ⟨sl, hL⟩ := u.any ho I.free (by simp)
  exact I.step (g' := s.gens) (d' := s.drawn) (ch := []) (fun _ z => nomatch z) (fun b o _ hb _ e n => u.keep b o e n hb (by simp)) (fun b o _ hb _ e n => u.slot b o e n hb (by simp)) (fun b o _ e n => u.free b o e n (by simp)) (fun b o _ e => u.there b o e (by simp)) u.tups u.frzs u.tbls (fun m' hm => by
    obtain ⟨o', es', ep', ho', r'⟩ := hm
    rw [ho] at ho'; cases ho'
    exact ⟨_, es', ep', hL, r'⟩) hok I.bare
theorem Inv.call {g' : Array GenState} {t' : Nat} {d' : Drawn} {ch : List Addr} (I : Inv X pins σ H s) (u : Un (frs X.stack) ch H H' s.heap h') (hok : HOk X.prog X.w H' h') (hg : AllBare g')
    (hch : ∀ b ∈ ch, (b ∈ X.ex ∨ X.s₀.heap.objs.size ≤ b) ∧ b ≠ X.env.locals ∧ (∀ x c, X.env.cells.lookup x = some c → c ≠ b) ∧ ∀ p ∈ X.pn ++ pins, p.1 ≠ b) :
    Inv X pins σ H' { s with heap := h', gens := g', drawn := d', toks := t' } := by
  obtain ⟨m, ⟨o, es, ep, ho, r⟩, _⟩ := id I.loc
  obtain ⟨sl, hL⟩ := u.any ho I.free fun z => (hch _ z).2.1 rfl
  exact I.step (ch := ch) hch (fun b o hL hb hc e n => u.keep b o e n (fun z => (List.mem_cons.mp (I.stkSub b z)).elim hL hb) hc) (fun b o _ _ hc e n => u.any e n hc) (fun b o hc e n => u.free b o e n hc) (fun b o hc e => u.there b o e hc) u.tups u.frzs u.tbls (fun m' hm => by
    obtain ⟨o', es', ep', ho', r'⟩ := hm
    rw [ho] at ho'; cases ho'
    exact ⟨_, es', ep', hL, r'⟩) hok hg
theorem Inv.turned {t' : Nat} {it : Addr} (I : Inv X pins σ H s) (k : ∀ b o, b ≠ it → s.heap.get? b = some o → h'.get? b = some o) (hn : H it = none) (hL : it ≠ X.env.locals)
    (h1 : it ∈ X.ex ∨ X.s₀.heap.objs.size ≤ it) (h2 : ∀ x c, X.env.cells.lookup x = some c → c ≠ it) (h3 : ∀ p ∈ X.pn ++ pins, p.1 ≠ it) : Inv X pins σ H { s with heap := h', toks := t' } := by
  have nit : ∀ b u, H b = some u → b ≠ it := fun b u e z => by rw [z, hn] at e; cases e
  refine I.step (g' := s.gens) (d' := s.drawn) (ch := [it]) (fun b hb => ?_) (fun b o _ _ hc e _ => k b o (fun z => hc (by simp [z])) e) (fun b o _ _ hc e _ => ⟨o.slots, k b o (fun z => hc (by simp [z])) e⟩) (fun _ _ _ _ n => n)
    (fun b o hc e => ⟨o, k b o (fun z => hc (by simp [z])) e⟩) (fun _ _ e => e) (fun _ _ _ e => e) (fun b ps e => ⟨#[], by rw [e]; simp⟩) (fun m hm => ?_) (fun b u e => ?_) I.bare
  · have e : b = it := by simpa using hb
    subst e
    exact ⟨h1, hL, h2, h3⟩
  · obtain ⟨o, es, ep, ho, r⟩ := hm
    exact ⟨o, es, ep, k _ o (Ne.symm hL) ho, r⟩
  · refine (I.hok b u e).stay (fun c v hc q => k c v ?_ q) (fun _ q => q) fun _ _ q => q
    rcases hc with z | z
    · rw [z]; exact nit b u e
    · exact nit c _ z
theorem Inv.tok (I : Inv X pins σ H s) (t : Nat) : Inv X pins σ H { s with toks := t } := I.un (h' := s.heap) (t' := t) Un.refl I.hok
theorem Inv.kept {t' : Nat} (I : Inv X pins σ H s) (k : ∀ b u, s.heap.get? b = some u → h'.get? b = some u) : Inv X pins σ H { s with heap := h', toks := t' } := I.un (Un.kept k) (I.hok.kept k)
theorem Inv.laid {a : Addr} {o : HO} {t' : Nat} (I : Inv X pins σ H s) (k : ∀ b u, s.heap.get? b = some u → h'.get? b = some u) (hp : s.heap.objs.size ≤ a) (new : ObjOk X.prog X.w (upd H a o) h' a o) :
    Inv X pins σ (upd H a o) { s with heap := h', toks := t' } := I.un (Un.laid k hp (I.hok.fresh hp)) (I.hok.laid k hp new)
theorem Inv.write {x e : Addr} {o : HO} {t' : Nat} (I : Inv X pins σ H s) (mu : Mut (H x)) (he : e = x ∨ H e = some (.own x)) (k : ∀ b u, b ≠ e → s.heap.get? b = some u → h'.get? b = some u) (heo : ∃ u, h'.get? e = some u)
    (new : ObjOk X.prog X.w (upd H x o) h' x o) : Inv X pins σ (upd H x o) { s with heap := h', toks := t' } := I.un (Un.write mu he k heo) (I.hok.write mu he k heo new)
theorem Inv.pins_of {pins' : List (Addr × Obj)} (I : Inv X pins σ H s) (h : ∀ p ∈ pins', s.heap.get? p.1 = some p.2 ∧ H p.1 = none ∧ p.1 ≠ X.env.locals ∧ p.1 ∉ X.fs ∧ ∀ v, p.2.data ≠ .cell v) : Inv X pins' σ H s :=
  ⟨I.ok, I.os, I.bare, I.base, I.loc, I.cell, I.free, I.freeC, fun p hp => (List.mem_append.mp hp).elim (fun z => I.pin p (List.mem_append_left _ z)) (h p), I.hok, I.len⟩

theorem nodup_ix {N : List Str} (hN : N.Nodup) {i j : Nat} {x : Str} (a : N[i]? = some x) (b : N[j]? = some x) : i = j := by
  obtain ⟨h1, e1⟩ := List.getElem?_eq_some_iff.mp a
  obtain ⟨h2, e2⟩ := List.getElem?_eq_some_iff.mp b
  exact (List.getElem_inj hN).mp (e1.trans e2.symm)
theorem store_ok2 {M : Model} {A : Around} {E : Value → Shared → Prop} {i : Nat} {x : Str} {v : V} {u : Value} {Q : Unit → Shared → Prop} (I : Inv X pins σ H s) (hN : X.N.Nodup) (hi : X.N[i]? = some x) (hx : Loc X.env.scope x) (r : RelV v u)
    (h : ∀ s', Inv X pins (σ.set i (some v)) H s' → (∃ a, Heap.SameBut a s.heap s'.heap ∧ (a = X.env.locals ∨ X.env.cells.lookup x = some a)) → Q () s') (hf : X.fn x = true ∨ X.env.scope.names.lookup x = some .local := by first | exact .inl rfl | exact .inr rfl | assumption) : wpAny M A (storeName X.env x u) Q E s := by
  obtain ⟨m, hn, hl⟩ := id I.loc
  have hcls : (X.env.scope.kind == .class || (X.env.scope.kind == .module && X.env.locals != X.env.globals)) = false := by rw [I.ok.kind]; rfl
  have hiσ : i < σ.length := by rw [I.len]; exact (List.getElem?_eq_some_iff.mp hi).1
  have cne := I.cne
  have tracked : ∀ {a : Addr} {h' : Heap}, (∃ o, s.heap.get? a = some o ∧ H a = none) → Heap.SameBut a s.heap h' → HOk X.prog X.w H h' := fun {a h'} ha hs b ob e => by
    obtain ⟨_, _, hfree⟩ := ha
    refine (I.hok b ob e).stay (fun c w' hc q => (hs.2 c ?_).trans q) (fun _ q => q) fun _ _ q => q
    rintro rfl
    rcases hc with rfl | hc
    · rw [hfree] at e; cases e
    · rw [hfree] at hc; cases hc
  rcases hx with hk | hk
  · refine wpAny_storeName_local hk hn (fun h' hn' hs => ?_) hcls
    obtain ⟨oL, _, _, hoL, _⟩ := id hn
    refine h _ ⟨I.ok, I.os, I.bare, ⟨fun b o e n hb hx => ?_, fun b o e n hb hx => ?_, I.base.free, fun b o e hx => ?_, I.base.tups, I.base.frzs, I.base.tbls⟩, ⟨_, hn', fun j y v' e1 e2 e3 => ?_⟩, fun y c e => ?_, I.free, I.freeC, fun p hp => ?_, tracked ⟨oL, hoL, I.free⟩ hs, by simpa using I.len⟩ ⟨_, hs, .inl rfl⟩
    · exact (hs.2 b (Nat.ne_of_lt (Nat.lt_of_lt_of_le (Heap.lt_size e) I.ok.above))).trans (I.base.keep b o e n hb hx)
    · obtain ⟨sl, e1⟩ := I.base.slot b o e n hb hx
      exact ⟨sl, (hs.2 b (Nat.ne_of_lt (Nat.lt_of_lt_of_le (Heap.lt_size e) I.ok.above))).trans e1⟩
    · obtain ⟨o', e1⟩ := I.base.there b o e hx
      exact ⟨o', (hs.2 b (Nat.ne_of_lt (Nat.lt_of_lt_of_le (Heap.lt_size e) I.ok.above))).trans e1⟩
    · by_cases hj : j = i
      · subst hj
        rw [hi] at e1; cases e1
        rw [List.getElem?_set_self hiσ] at e2
        cases e2
        exact ⟨u, r, .inl ⟨hk, by simp⟩⟩
      · rw [List.getElem?_set_ne (Ne.symm hj)] at e2
        obtain ⟨u', r', q⟩ := hl j y v' e1 e2 e3
        refine ⟨u', r', ?_⟩
        rcases q with ⟨k, e⟩ | ⟨k, c, e, z⟩
        · refine .inl ⟨k, ?_⟩
          have : y ≠ x := fun e => hj (nodup_ix hN e1 (e ▸ hi))
          simp [this, e]
        · exact .inr ⟨k, c, e, z.sameBut hs (cne y c e)⟩
    · obtain ⟨w', z⟩ := I.cell y c e
      exact ⟨w', z.sameBut hs (cne y c e)⟩
    · obtain ⟨e, n, ne, nf, d⟩ := I.pin p hp
      exact ⟨(hs.2 p.1 ne).trans e, n, ne, nf, d⟩
  · have hfn : X.fn x = true := by
      rcases hf with z | z
      · exact z
      · rw [z] at hk; cases hk
    obtain ⟨c, hc⟩ := I.ok.has x (.inl hk)
    obtain ⟨w', z⟩ := I.cell x c hc
    refine wpAny_storeName_cell I.ok.kind hk hc z (fun h' hc' hs => ?_)
    obtain ⟨oc, hoc, hocd⟩ := id z
    refine h { s with heap := h' } ⟨I.ok, I.os, I.bare, ⟨fun b o e n hb hx => ?_, fun b o e n hb hx => ?_, I.base.free, fun b o e hx => ?_, I.base.tups, I.base.frzs, I.base.tbls⟩, ⟨m, hn.sameBut hs (Ne.symm (cne x c hc)), fun j y v' e1 e2 e3 => ?_⟩, fun y c' e => ?_, I.free, I.freeC, fun p hp => ?_, tracked ⟨oc, hoc, I.freeC x c hc⟩ hs, by simpa using I.len⟩ ⟨c, hs, .inr hc⟩
    · exact (hs.2 b (Nat.ne_of_lt (Nat.lt_of_lt_of_le (Heap.lt_size e) (I.ok.cab x c hfn hc)))).trans (I.base.keep b o e n hb hx)
    · obtain ⟨sl, e1⟩ := I.base.slot b o e n hb hx
      exact ⟨sl, (hs.2 b (Nat.ne_of_lt (Nat.lt_of_lt_of_le (Heap.lt_size e) (I.ok.cab x c hfn hc)))).trans e1⟩
    · obtain ⟨o', e1⟩ := I.base.there b o e hx
      exact ⟨o', (hs.2 b (Nat.ne_of_lt (Nat.lt_of_lt_of_le (Heap.lt_size e) (I.ok.cab x c hfn hc)))).trans e1⟩
    · by_cases hj : j = i
      · subst hj
        rw [hi] at e1; cases e1
        rw [List.getElem?_set_self hiσ] at e2
        cases e2
        exact ⟨u, r, .inr ⟨.inl hk, c, hc, hc'⟩⟩
      · rw [List.getElem?_set_ne (Ne.symm hj)] at e2
        obtain ⟨u', r', q⟩ := hl j y v' e1 e2 e3
        refine ⟨u', r', ?_⟩
        rcases q with q | ⟨k, c', e, z'⟩
        · exact .inl q
        · refine .inr ⟨k, c', e, z'.sameBut hs ?_⟩
          rintro rfl
          exact hj (nodup_ix hN e1 (I.ok.inj _ _ _ e hc ▸ hi))
    · by_cases hcc : c' = c
      · subst hcc; exact ⟨_, hc'⟩
      · obtain ⟨w2, z2⟩ := I.cell y c' e
        exact ⟨w2, z2.sameBut hs hcc⟩
    · obtain ⟨e, n, ne, nf, d⟩ := I.pin p hp
      refine ⟨(hs.2 p.1 ?_).trans e, n, ne, nf, d⟩
      intro q
      rw [q, hoc] at e
      have q' : oc = p.2 := Option.some.inj e
      exact d w' (by rw [← q']; exact hocd)
theorem store_ok {M : Model} {A : Around} {E : Value → Shared → Prop} {i : Nat} {x : Str} {v : V} {u : Value} {Q : Unit → Shared → Prop} (I : Inv X pins σ H s) (hN : X.N.Nodup) (hi : X.N[i]? = some x) (hx : Loc X.env.scope x) (r : RelV v u)
    (h : ∀ s', Inv X pins (σ.set i (some v)) H s' → Q () s') (hf : X.fn x = true ∨ X.env.scope.names.lookup x = some .local := by first | exact .inl rfl | exact .inr rfl | assumption) : wpAny M A (storeName X.env x u) Q E s :=
  store_ok2 I hN hi hx r (fun s' I' _ => h s' I') hf
theorem Inv.call' {s' : Shared} {ch : List Addr} (I : Inv X pins σ H s) (ho : s'.os = s.os) (u : Un (frs X.stack) ch H H' s.heap s'.heap) (hok : HOk X.prog X.w H' s'.heap) (hg : AllBare s'.gens)
    (hch : ∀ b ∈ ch, (b ∈ X.ex ∨ X.s₀.heap.objs.size ≤ b) ∧ b ≠ X.env.locals ∧ (∀ x c, X.env.cells.lookup x = some c → c ≠ b) ∧ ∀ p ∈ X.pn ++ pins, p.1 ≠ b) : Inv X pins σ H' s' := by
  obtain ⟨h', g', d', t', o'⟩ := s'
  have e : o' = s.os := ho
  subst e
  exact I.call (g' := g') (t' := t') (d' := d') u hok hg hch
end
abbrev XK := Value → Option Addr → Hp → Prop
abbrev St := List (Option V)
abbrev VK := V → Hp → Prop
abbrev TE := St → Hp → VK → Prop
abbrev TT := St → Hp → (Bool → Hp → Prop) → Prop
abbrev TA := St → Hp → (List V → Hp → Prop) → Prop
structure Ends where
  nx : St → Hp → Prop
  rt : VK
  bk : St → Hp → Prop := fun _ _ => False
  ct : St → Hp → Prop := fun _ _ => False
abbrev TS := Ends → St → Hp → Prop

def EP (X : Cx) (pins : List (Addr × Obj)) (σ : St) (Q : VK) (u : Value) (s' : Shared) : Prop := ∃ v H', Inv X pins σ H' s' ∧ RelV v u ∧ Q v H'
def TP (X : Cx) (pins : List (Addr × Obj)) (σ : St) (Q : Bool → Hp → Prop) (b : Bool) (s' : Shared) : Prop := ∃ H', Inv X pins σ H' s' ∧ Q b H'
def AP (X : Cx) (pins : List (Addr × Obj)) (σ : St) (Q : List V → Hp → Prop) (us : List Value) (s' : Shared) : Prop := ∃ vs H', Inv X pins σ H' s' ∧ Vals vs us ∧ Q vs H'
def SP (X : Cx) (pins : List (Addr × Obj)) (D : Ends) (f : Flow) (s' : Shared) : Prop :=
  match f with
  | .next => ∃ σ' H', Inv X pins σ' H' s' ∧ D.nx σ' H'
  | .brk => ∃ σ' H', Inv X pins σ' H' s' ∧ D.bk σ' H'
  | .cont => ∃ σ' H', Inv X pins σ' H' s' ∧ D.ct σ' H'
  | .ret u => ∃ v σ' H', Inv X pins σ' H' s' ∧ RelV v u ∧ D.rt v H'

def PE (X : Cx) (e : Expr) (t : TE) : Prop :=
  ∀ (pins : List (Addr × Obj)) (s : Shared) (σ : St) (H : Hp) (Q : VK), Inv X pins σ H s → t σ H Q → wpAny (model X.prog X.w) X.A (eval e X.env) (EP X pins σ Q) X.xe s
def PT (X : Cx) (e : Expr) (t : TT) : Prop :=
  ∀ (pins : List (Addr × Obj)) (s : Shared) (σ : St) (H : Hp) (Q : Bool → Hp → Prop), Inv X pins σ H s → t σ H Q → wpAny (model X.prog X.w) X.A (isTrue e X.env (eval e X.env)) (TP X pins σ Q) X.xe s
def PW (X : Cx) (e : Expr) (t : TT) : Prop :=
  ∀ (whole : Sem Value) (pins : List (Addr × Obj)) (s : Shared) (σ : St) (H : Hp) (Q : Bool → Hp → Prop), Inv X pins σ H s → t σ H Q → wpAny (model X.prog X.w) X.A (isTrue e X.env whole) (TP X pins σ Q) X.xe s
theorem PW.pt {X : Cx} {e : Expr} {t : TT} (h : PW X e t) : PT X e t := h _
def PA (X : Cx) (es : List Expr) (t : TA) : Prop :=
  ∀ (pos : Pos) (pins : List (Addr × Obj)) (s : Shared) (σ : St) (H : Hp) (Q : List V → Hp → Prop), Inv X pins σ H s → t σ H Q → wpAny (model X.prog X.w) X.A (spliced (backTo pos (starEach es X.env))) (AP X pins σ Q) X.xe s
def PS (X : Cx) (st : Stmt) (t : TS) : Prop :=
  ∀ (pins : List (Addr × Obj)) (s : Shared) (σ : St) (H : Hp) (D : Ends), Inv X pins σ H s → t D σ H → wpAny (model X.prog X.w) X.A (exec st X.env) (SP X pins D) X.xe s
def PSs (X : Cx) (st : List Stmt) (t : TS) : Prop :=
  ∀ (pins : List (Addr × Obj)) (s : Shared) (σ : St) (H : Hp) (D : Ends), Inv X pins σ H s → t D σ H → wpAny (model X.prog X.w) X.A (execs st X.env) (SP X pins D) X.xe s
theorem thn {α : Type} {t : Sem α} {Q Q' : α → Shared → Prop} {M : Model} {A : Around} {E : Value → Shared → Prop} {s : Shared} (h : wpAny M A t Q E s) (hQ : ∀ a s, Q a s → Q' a s) : wpAny M A t Q' E s := wpAny_mono h hQ fun _ _ x => x
end L2

namespace L2
open PySem PySem.Spec PyProof.Rows
section
variable {X : Cx}
def tVar (i : Nat) : TE := fun σ H Q => ∃ v, σ[i]? = some (some v) ∧ Q v H
def tC (v : V) : TE := fun _ H Q => Q v H
theorem pe_var {i : Nat} {x : Str} {pos : Pos} (hN : X.N[i]? = some x) (hv : Vis X.env.scope x) (hd : (x == ("__debug__" : Str)) = false := by decide) (hcd : (x == ("__classdict__" : Str)) = false := by decide) : PE X (.Name x pos) (tVar i) := by
  intro pins s σ H Q I h
  obtain ⟨v, e, h⟩ := h
  obtain ⟨m, hn, hl⟩ := I.loc
  obtain ⟨u, r, l⟩ := hl i x v hN e hv
  have fin : EP X pins σ Q u s := ⟨v, H, I, r, h⟩
  rcases l with ⟨hk, hm⟩ | ⟨hk, c, hc, hcell⟩
  · exact wpAny_Name (wpAny_loadName_local I.ok.kind hk hn hm fin) hd
  · rcases hk with hk | hk
    · exact wpAny_Name (wpAny_loadName_cell I.ok.kind hk hc hcell fin) hd
    · exact wpAny_Name (wpAny_loadName_free I.ok.kind hk hc hcell fin hcd) hd
theorem pe_int {i j pos} : PE X (.Constant (.int i) j pos) (tC (.int i)) := fun _ _ _ H _ I h => wpAny_Constant_int ⟨.int i, H, I.tok _, ⟨_, rfl⟩, h⟩
theorem pe_bl {b j pos} : PE X (.Constant (.bool b) j pos) (tC (.bl b)) := fun _ _ _ H _ I h => Constant_bool ⟨.bl b, H, I, rfl, h⟩
theorem pe_non {j pos} : PE X (.Constant .none j pos) (tC .non) := fun _ _ _ H _ I h => Constant_none ⟨.non, H, I, rfl, h⟩
theorem pe_str {x j pos} : PE X (.Constant (.str x) j pos) (tC (.str x)) := fun _ _ _ H _ I h => Calls.Constant_str ⟨.str x, H, I.tok _, ⟨_, rfl⟩, h⟩
def Gl (X : Cx) (x : Str) : Prop := X.env.kindOf x = some .globalImplicit
theorem ld_glob {E : Value → Shared → Prop} {pins : List (Addr × Obj)} {s : Shared} {σ : St} {H : Hp} {x : Str} {u : Value} {pos : Pos} {Q : Value → Shared → Prop} (I : Inv X pins σ H s) (hg : Gl X x) (hm : X.mg x = some u) (h : Q u s)
    (hd : (x == ("__debug__" : Str)) = false := by decide) : wpAny (model X.prog X.w) X.A (eval (.Name x pos) X.env) Q E s :=
  Calls.Name_function_global I.ok.kind hg (Calls.loadGlobal_global (by rw [I.ok.glob]; exact I.mod.glob.keeps I.bk) hm h) hd
theorem ld_blt {E : Value → Shared → Prop} {pins : List (Addr × Obj)} {s : Shared} {σ : St} {H : Hp} {x : Str} {u : Value} {pos : Pos} {Q : Value → Shared → Prop} (I : Inv X pins σ H s) (hg : Gl X x) (hm : X.mg x = none) (hv : bootBuiltins x = some u) (h : Q u s)
    (hn : x ≠ "__name__" := by decide) (hd : (x == ("__debug__" : Str)) = false := by decide) : wpAny (model X.prog X.w) X.A (eval (.Name x pos) X.env) Q E s := by
  obtain ⟨mb, h1, h2⟩ := I.mod.blt
  exact Calls.Name_function_global I.ok.kind hg (Calls.loadGlobal_builtin (by rw [I.ok.glob]; exact I.mod.glob.keeps I.bk) hm (by rw [I.ok.blt]; exact h1.keeps I.bk) ((h2 x hn).trans hv) h) hd
theorem pe_glob {x : Str} {v : V} {u : Value} {pos : Pos} (hg : Gl X x) (hm : X.mg x = some u) (r : RelV v u) (hd : (x == ("__debug__" : Str)) = false := by decide) : PE X (.Name x pos) (tC v) :=
  fun _ _ _ H _ I h => ld_glob I hg hm ⟨v, H, I, r, h⟩ hd
theorem pe_bltn {x : Str} {v : V} {u : Value} {pos : Pos} (hg : Gl X x) (hm : X.mg x = none) (hv : bootBuiltins x = some u) (r : RelV v u) (hn : x ≠ "__name__" := by decide) (hd : (x == ("__debug__" : Str)) = false := by decide) : PE X (.Name x pos) (tC v) :=
  fun _ _ _ H _ I h => ld_blt I hg hm hv ⟨v, H, I, r, h⟩ hn hd
variable {a b : Expr} {ta tb : TE} {pos : Pos}
def tB (t : TE) : TT := fun σ H Q => t σ H fun x H1 => ∃ c, x = .bl c ∧ Q c H1
theorem pt_val {e : Expr} {t : TE} (h : PE X e t) (he : ∀ whole, isTrue e X.env whole = (do let v ← whole; standAt e.pos; holding [v] (truthy v)) := by intro _; rfl) : PT X e (tB t) := by
  intro pins s σ H Q I hw
  refine isTrue_plain (thn (h pins s σ H _ I hw) fun v s1 ⟨x, H1, I1, r1, q1⟩ => ?_) (he _)
  obtain ⟨d, rfl, q⟩ := q1
  cases r1
  exact wpAny_truthy_bool ⟨H1, I1, q⟩
variable {tA tB' : TT} {rest : List Expr}
def tAnd (t u : TT) : TT := fun σ H Q => t σ H fun c H1 => if c = true then u σ H1 Q else Q false H1
def tOr (t u : TT) : TT := fun σ H Q => t σ H fun c H1 => if c = true then Q true H1 else u σ H1 Q
def tNot (t : TT) : TT := fun σ H Q => t σ H fun c H1 => Q (!c) H1
theorem pw_and1 (ha : PT X a tA) : PW X (.BoolOp .And [a] pos) tA := by
  intro wh pins s σ H Q I h
  refine isTrue_and (thn (ha pins s σ H Q I h) fun c s1 e => ?_)
  cases c with
  | true => exact isTrue_and_nil e
  | false => exact e
theorem pw_or1 (ha : PT X a tA) : PW X (.BoolOp .Or [a] pos) tA := by
  intro wh pins s σ H Q I h
  refine isTrue_or (thn (ha pins s σ H Q I h) fun c s1 e => ?_)
  cases c with
  | false => exact isTrue_or_nil e
  | true => exact e
theorem pw_and (ha : PT X a tA) (hb : PW X (.BoolOp .And (b :: rest) pos) tB') : PW X (.BoolOp .And (a :: b :: rest) pos) (tAnd tA tB') := by
  intro wh pins s σ H Q I h
  refine isTrue_and (thn (ha pins s σ H _ I h) fun c s1 ⟨H1, I1, q1⟩ => ?_)
  cases c with
  | true => exact hb wh pins s1 σ H1 Q I1 q1
  | false => exact ⟨H1, I1, q1⟩
theorem pw_or (ha : PT X a tA) (hb : PW X (.BoolOp .Or (b :: rest) pos) tB') : PW X (.BoolOp .Or (a :: b :: rest) pos) (tOr tA tB') := by
  intro wh pins s σ H Q I h
  refine isTrue_or (thn (ha pins s σ H _ I h) fun c s1 ⟨H1, I1, q1⟩ => ?_)
  cases c with
  | true => exact ⟨H1, I1, q1⟩
  | false => exact hb wh pins s1 σ H1 Q I1 q1
theorem pt_not (ha : PT X a tA) : PT X (.UnaryOp .Not a pos) (tNot tA) := by
  intro pins s σ H Q I h
  exact isTrue_not (ha pins s σ H (fun c H1 => Q (!c) H1) I h)
def tAndV (ta tb : TE) : TE := fun σ H Q => ta σ H fun x H1 => ∃ c, x = .bl c ∧ if c = true then tb σ H1 Q else Q (.bl false) H1
def tNotV (ta : TE) : TE := fun σ H Q => ta σ H fun x H1 => ∃ c, x = .bl c ∧ Q (.bl (!c)) H1
theorem pe_one {op} {t : TE} (h : PE X a t) : PE X (.BoolOp op [a] pos) t := fun pins s σ H Q I hw => BoolOp_one (h pins s σ H Q I hw)
theorem pe_and (ha : PE X a ta) (hb : PE X (.BoolOp .And (b :: rest) pos) tb) : PE X (.BoolOp .And (a :: b :: rest) pos) (tAndV ta tb) := by
  intro pins s σ H Q I h
  refine BoolOp_and (thn (ha pins s σ H _ I h) fun v s1 ⟨x, H1, I1, r1, q1⟩ => ?_)
  obtain ⟨c, rfl, q1⟩ := q1
  cases r1
  refine wpAny_truthy_bool ?_
  cases c with
  | true => exact hb pins s1 σ H1 Q I1 q1
  | false => exact ⟨.bl false, H1, I1, rfl, q1⟩
theorem pe_not (ha : PE X a ta) : PE X (.UnaryOp .Not a pos) (tNotV ta) := by
  intro pins s σ H Q I h
  refine UnaryOp_ (thn (ha pins s σ H _ I h) fun v s1 ⟨x, H1, I1, r1, q1⟩ => ?_)
  obtain ⟨c, rfl, q1⟩ := q1
  cases r1
  exact not_of (wpAny_truthy_bool ⟨.bl (!c), H1, I1, rfl, q1⟩)
end
end L2

namespace L2
open PySem PySem.Spec PyProof.Rows
def SqL (K : PySem.W.Frag) (H : Hp) (a : Addr) (xs : List V) : Prop :=
  Rd H a (.lst xs) ∨
    ∃ (o : Obj) (its : Array Value) (n : Nat), K.lookup a = some o ∧ o.cls = .type "list" ∧ o.dict = none ∧ o.data = .seq its n ∧ its.size ≤ sizeLine ∧ Vals xs its.toList
def SqT (K : PySem.W.Frag) (H : Hp) (a : Addr) (xs : List V) : Prop :=
  Rd H a (.tup xs) ∨
    ∃ (o : Obj) (its : Array Value) (n : Nat), K.lookup a = some o ∧ o.cls = .type "tuple" ∧ o.data = .seq its n ∧ its.size ≤ sizeLine ∧ Vals xs its.toList
def absV : Value → Option V
  | .none => some .non
  | .bool b => some (.bl b)
  | .int i _ => some (.int i)
  | .str x _ => some (.str x)
  | .bytes b _ => some (.byt b)
  | .float b _ => some (.flt b)
  | .ref a => some (.ref a)
  | .type n => some (.ty n)
  | _ => none
theorem RelV.abs {x : V} {u : Value} (r : RelV x u) : absV u = some x := by
  cases x with
  | non => cases r; rfl
  | bl _ => cases r; rfl
  | int _ => obtain ⟨t, rfl⟩ := r; rfl
  | str _ => obtain ⟨t, rfl⟩ := r; rfl
  | byt _ => obtain ⟨t, rfl⟩ := r; rfl
  | flt _ => obtain ⟨t, rfl⟩ := r; rfl
  | ref _ => cases r; rfl
  | ty _ => cases r; rfl
theorem RelV.inj {x y : V} {u : Value} (r : RelV x u) (q : RelV y u) : x = y := Option.some.inj (r.abs.symm.trans q.abs)
theorem Vals.inj : ∀ {xs ys : List V} {us : List Value}, Vals xs us → Vals ys us → xs = ys
  | _, _, _, .nil, .nil => rfl
  | _, _, _, .cons r t, .cons r' t' => by rw [r.inj r', Vals.inj t t']
section
variable {X : Cx} {pins : List (Addr × Obj)} {σ : St} {H : Hp} {s : Shared} {a : Addr} {xs ys : List V}
theorem SqL.of {K : PySem.W.Frag} (h : H a = some (.lst xs)) : SqL K H a xs := .inl (.inl h)
theorem SqT.of {K : PySem.W.Frag} (h : H a = some (.tup xs)) : SqT K H a xs := .inl (.inl h)
theorem Inv.list (I : Inv X pins σ H s) (h : SqL X.K H a xs) : ∃ its : List Value, Vals xs its ∧ PlainL s.heap a its.toArray ∧ xs.length ≤ sizeLine := by
  rcases h with h | ⟨o, its, n, hk, hc, hd, hs, hz, r⟩
  · obtain ⟨z, its, n, r, e⟩ := h.ok I.hok
    exact ⟨its, r, ⟨_, n, e, rfl, rfl, rfl⟩, z⟩
  · refine ⟨its.toList, r, ⟨o, n, I.kIn a o hk, hc, hd, by simpa using hs⟩, ?_⟩
    have e := r.length
    simp only [Array.length_toList] at e
    omega
theorem Inv.tuple (I : Inv X pins σ H s) (h : SqT X.K H a xs) : ∃ its : List Value, Vals xs its ∧ IsTup s.heap a its.toArray ∧ xs.length ≤ sizeLine := by
  rcases h with h | ⟨o, its, n, hk, hc, hs, hz, r⟩
  · obtain ⟨z, its, r, p⟩ := h.ok I.hok
    exact ⟨its, r, p.tup, z⟩
  · refine ⟨its.toList, r, ⟨o, I.kIn a o hk, hc, n, by simpa using hs⟩, ?_⟩
    have e := r.length
    simp only [Array.length_toList] at e
    omega
theorem Inv.list_inj (I : Inv X pins σ H s) (h : SqL X.K H a xs) (h' : SqL X.K H a ys) : xs = ys := by
  obtain ⟨its, r, ⟨o, n, e, _, _, d⟩, _⟩ := I.list h
  obtain ⟨its', r', ⟨o', n', e', _, _, d'⟩, _⟩ := I.list h'
  rw [e] at e'; cases e'
  rw [d] at d'
  injection d' with d1 _
  have : its = its' := by simpa using congrArg Array.toList d1
  subst this
  exact r.inj r'
theorem Inv.tuple_inj (I : Inv X pins σ H s) (h : SqT X.K H a xs) (h' : SqT X.K H a ys) : xs = ys := by
  obtain ⟨its, r, ⟨o, e, _, n, d⟩, _⟩ := I.tuple h
  obtain ⟨its', r', ⟨o', e', _, n', d'⟩, _⟩ := I.tuple h'
  rw [e] at e'; cases e'
  rw [d] at d'
  injection d' with d1 _
  have : its = its' := by simpa using congrArg Array.toList d1
  subst this
  exact r.inj r'
end
abbrev Cx.wish (X : Cx) (E : Value → Shared → Prop) : Cx := { X with xe := E }
abbrev Cx.nox (X : Cx) : Cx := X.wish fun _ _ => False
theorem Cx.Ok.wish {X : Cx} (ok : X.Ok) (E : Value → Shared → Prop) : (X.wish E).Ok :=
  ⟨ok.mod, ok.kind, ok.glob, ok.blt, ok.above, ok.inj, ok.has, ok.cab, ok.hd, ok.frames, ok.stk, ok.exf, ok.bs, ok.bsz, ok.noex, ok.exfs, ok.funs, ok.frf⟩
theorem Cx.Ok.unwish {X : Cx} {E : Value → Shared → Prop} (ok : (X.wish E).Ok) : X.Ok :=
  ⟨ok.mod, ok.kind, ok.glob, ok.blt, ok.above, ok.inj, ok.has, ok.cab, ok.hd, ok.frames, ok.stk, ok.exf, ok.bs, ok.bsz, ok.noex, ok.exfs, ok.funs, ok.frf⟩
section
variable {X : Cx} {pins : List (Addr × Obj)} {σ : St} {H : Hp} {s : Shared} {E : Value → Shared → Prop}
theorem Inv.wish (I : Inv X pins σ H s) (E : Value → Shared → Prop) : Inv (X.wish E) pins σ H s := ⟨I.ok.wish E, I.os, I.bare, I.base, I.loc, I.cell, I.free, I.freeC, I.pin, I.hok, I.len⟩
theorem Inv.unwish (I : Inv (X.wish E) pins σ H s) : Inv X pins σ H s := ⟨I.ok.unwish, I.os, I.bare, I.base, I.loc, I.cell, I.free, I.freeC, I.pin, I.hok, I.len⟩
theorem SP.unwish {D : Ends} {f : Flow} {s' : Shared} (h : SP (X.wish E) pins D f s') : SP X pins D f s' := by
  cases f with
  | next => obtain ⟨σ', H', I, q⟩ := h; exact ⟨σ', H', I.unwish, q⟩
  | brk => obtain ⟨σ', H', I, q⟩ := h; exact ⟨σ', H', I.unwish, q⟩
  | cont => obtain ⟨σ', H', I, q⟩ := h; exact ⟨σ', H', I.unwish, q⟩
  | ret u => obtain ⟨v, σ', H', I, r, q⟩ := h; exact ⟨v, σ', H', I.unwish, r, q⟩
theorem PSs.nox {st : List Stmt} {t : TS} (h : PSs X.nox st t) : PSs X st t := fun pins s σ H D I hw =>
  wpAny_mono (h pins s σ H D (I.wish _) hw) (fun _ _ q => q.unwish) fun _ _ z => False.elim z
end
section
variable {X : Cx} {st : Stmt} {rest : List Stmt} {t u : TS} {e : Expr} {te : TE} {pos : Pos}
def tNext : TS := fun D σ H => D.nx σ H
def tSeq (t u : TS) : TS := fun D σ H => t { D with nx := u D } σ H
theorem pss_nil : PSs X [] tNext := fun _ _ σ H _ I h => wpAny_execs_nil ⟨σ, H, I, h⟩
theorem pss_cons (h1 : PS X st t) (h2 : PSs X rest u) : PSs X (st :: rest) (tSeq t u) := by
  intro pins s σ H D I h
  refine wpAny_execs_cons (thn (h1 pins s σ H { D with nx := u D } I h) fun f s1 q => ?_)
  cases f with
  | next =>
    obtain ⟨σ', H', I', q⟩ := q
    exact h2 pins s1 σ' H' D I' q
  | ret v => exact q
  | brk => exact q
  | cont => exact q
theorem pss_one (h1 : PS X st t) : PSs X [st] t := by
  intro pins s σ H D I h
  refine wpAny_execs_cons (thn (h1 pins s σ H D I h) fun f s1 q => ?_)
  cases f with
  | next => exact wpAny_execs_nil q
  | ret v => exact q
  | brk => exact q
  | cont => exact q
theorem Inv.quiet {pins : List (Addr × Obj)} {σ : St} {H : Hp} {s : Shared} (I : Inv X pins σ H s) : interactive X.env = false := by simp [interactive, I.ok.kind]
def tDrop (te : TE) : TS := fun D σ H => te σ H fun _ H1 => D.nx σ H1
theorem ps_expr (he : PE X e te) (hs : swapsWith e none pos.line X.env = pure false := by rfl) : PS X (.Expr e pos) (tDrop te) := by
  intro pins s σ H D I h
  exact wpAny_Expr_any (thn (he pins s σ H _ I h) fun v s1 ⟨x, H1, I1, r1, q1⟩ => ⟨σ, H1, I1, q1⟩) I.quiet hs
def tRet (te : TE) : TS := fun D σ H => te σ H D.rt
theorem ps_ret (he : PE X e te) : PS X (.Return (some e) pos) (tRet te) := by
  intro pins s σ H D I h
  exact wpAny_Return_some (thn (he pins s σ H _ I h) fun v s1 ⟨x, H1, I1, r1, q1⟩ => ⟨x, σ, H1, I1, r1, q1⟩)
def tIfS (c : TT) (t u : TS) : TS := fun D σ H => c σ H fun b H1 => if b = true then t D σ H1 else u D σ H1
theorem ps_if {c : Expr} {a b : List Stmt} {tc : TT} (hc : PT X c tc) (ha : PSs X a t) (hb : PSs X b u) : PS X (.If c a b pos) (tIfS tc t u) := by
  intro pins s σ H D I h
  refine wpAny_If (thn (hc pins s σ H _ I h) fun d s1 ⟨H1, I1, q1⟩ => ?_)
  cases d with
  | true => exact ha pins s1 σ H1 D I1 q1
  | false => exact hb pins s1 σ H1 D I1 q1
end
abbrev TG := V → St → Hp → (St → Hp → Prop) → Prop
abbrev TGs := List V → St → Hp → (St → Hp → Prop) → Prop
def PG (X : Cx) (target : Expr) (t : TG) : Prop :=
  ∀ (pins : List (Addr × Obj)) (s : Shared) (σ : St) (H : Hp) (v : V) (u : Value) (Q : St → Hp → Prop), Inv X pins σ H s → RelV v u → t v σ H Q →
    wpAny (model X.prog X.w) X.A (assign target X.env u) (fun _ s' => ∃ σ' H', Inv X pins σ' H' s' ∧ Q σ' H') X.xe s
def PGs (X : Cx) (ts : List Expr) (t : TGs) : Prop :=
  ∀ (pins : List (Addr × Obj)) (s : Shared) (σ : St) (H : Hp) (vs : List V) (us : List Value) (Q : St → Hp → Prop), Inv X pins σ H s → Vals vs us → t vs σ H Q →
    wpAny (model X.prog X.w) X.A (assignInOrder ((assignEach ts X.env).map (·.2)) us) (fun _ s' => ∃ σ' H', Inv X pins σ' H' s' ∧ Q σ' H') X.xe s
abbrev TSet := V → V → V → Hp → (Hp → Prop) → Prop
def PSet (X : Cx) (t : TSet) : Prop :=
  ∀ (pins : List (Addr × Obj)) (s : Shared) (σ : St) (H : Hp) (o i v : V) (ov iv u : Value) (Q : Hp → Prop), Inv X pins σ H s → RelV o ov → RelV i iv → RelV v u → t o i v H Q →
    wpAny (model X.prog X.w) X.A (setItem ov iv u) (fun _ s' => ∃ H', Inv X pins σ H' s' ∧ Q H') X.xe s
abbrev TIp := V → V → Hp → VK → Prop
def PIp (X : Cx) (op : Operator) (t : TIp) : Prop :=
  ∀ (pins : List (Addr × Obj)) (s : Shared) (σ : St) (H : Hp) (x y : V) (v u : Value) (Q : VK), Inv X pins σ H s → RelV x v → RelV y u → t x y H Q →
    wpAny (model X.prog X.w) X.A (inplaceOp op v u) (EP X pins σ Q) X.xe s
section
variable {X : Cx} {pos : Pos}
def gName (i : Nat) : TG := fun v σ H Q => Q (σ.set i (some v)) H
theorem pg_name {i : Nat} {x : Str} (hN : X.N.Nodup) (hi : X.N[i]? = some x) (hx : Loc X.env.scope x) (hf : X.fn x = true ∨ X.env.scope.names.lookup x = some .local := by first | exact .inl rfl | exact .inr rfl | assumption) : PG X (.Name x pos) (gName i) := by
  intro pins s σ H v u Q I r h
  exact wpAny_assign_Name (store_ok I hN hi hx r (fun s' I' => ⟨_, H, I', h⟩) hf)
def gNil : TGs := fun vs σ H Q => vs = [] ∧ Q σ H
def gCons (t : TG) (u : TGs) : TGs := fun vs σ H Q => ∃ v r, vs = v :: r ∧ t v σ H fun σ' H' => u r σ' H' Q
theorem pgs_nil : PGs X [] gNil := by
  intro pins s σ H vs us Q I r h
  obtain ⟨e, h⟩ := h
  subst e
  cases r
  exact assignInOrder_nil ⟨σ, H, I, h⟩
theorem pgs_cons {e : Expr} {es : List Expr} {t : TG} {u : TGs} (h1 : PG X e t) (h2 : PGs X es u)
    (hs : (assignEach (e :: es) X.env).map (·.2) = assign e X.env :: (assignEach es X.env).map (·.2) := by rfl) : PGs X (e :: es) (gCons t u) := by
  intro pins s σ H vs us Q I r h
  obtain ⟨v, vr, e1, h⟩ := h
  subst e1
  cases r with
  | cons r rr =>
    rw [hs]
    refine assignInOrder_cons (thn (h1 pins s σ H _ _ _ I r h) fun _ s1 ⟨σ1, H1, I1, q1⟩ => ?_)
    exact h2 pins s1 σ1 H1 _ _ Q I1 rr q1
def gTup (K : PySem.W.Frag) (n : Nat) (t : TGs) : TG := fun v σ H Q => ∃ a xs, v = .ref a ∧ SqT K H a xs ∧ xs.length = n ∧ t xs σ H Q
theorem pg_tup {es : List Expr} {k : Nat} {t : TGs} {n : Nat} (hc : X.calm = true) (h : PGs X es t)
    (hn : (assignEach es X.env).length = n := by rfl) (hst : (assignEach es X.env).findIdx? (·.1) = none := by rfl) : PG X (.Tuple es k pos) (gTup X.K n t) := by
  intro pins s σ H v u Q I r hw
  obtain ⟨a, xs, e1, hq, hl, hw⟩ := hw
  subst e1
  cases r
  obtain ⟨its, rv, ht, hz⟩ := I.tuple hq
  refine assign_Tuple_tuple (I.ok.hd hc) ht (by simp [hn, ← hl, rv.length]) hst fun h' hx => ?_
  have I1 : Inv X pins σ H { s with heap := h' } := I.kept (t' := s.toks) fun b o e => hx b o (Nat.ne_of_lt (Heap.lt_size e)) e
  exact h pins _ σ H xs _ Q I1 (by simpa using rv) hw
def gSub (to ti : TE) (t : TSet) : TG := fun v σ H Q => to σ H fun o H1 => ti σ H1 fun i H2 => t o i v H2 fun H3 => Q σ H3
theorem pg_sub {o i : Expr} {to ti : TE} {t : TSet} (ho : PE X o to) (hi : PE X i ti) (hs : PSet X t)
    (ha : ∀ v, assign (.Subscript o i pos) X.env v = (do
      let ov ← holding [v] (eval o X.env)
      let iv ← holding [v, ov] (eval i X.env)
      standAt pos
      holding [v, ov, iv] (setItem ov iv v)
      release [v, ov, iv] []) := by intro _; rfl) : PG X (.Subscript o i pos) (gSub to ti t) := by
  intro pins s σ H v u Q I r h
  rw [ha]
  refine wpAny_bind (wpAny_holding (thn (ho pins s σ H _ I h) fun ov s1 ⟨x, H1, I1, r1, q1⟩ => ?_))
  refine wpAny_bind (wpAny_holding (thn (hi pins s1 σ H1 _ I1 q1) fun iv s2 ⟨y, H2, I2, r2, q2⟩ => ?_))
  refine wpAny_bind (wpAny_standAt (wpAny_bind (wpAny_holding (thn (hs pins s2 σ H2 x y v ov iv u _ I2 r1 r2 r q2) fun _ s3 ⟨H3, I3, q3⟩ => ?_))))
  exact wpAny_release ⟨σ, H3, I3, q3⟩
def tAsg (te : TE) (g : TG) : TS := fun D σ H => te σ H fun x H1 => g x σ H1 D.nx
theorem ps_asg {tg e : Expr} {te : TE} {g : TG} (he : PE X e te) (hg : PG X tg g) (hs : swapsWithSole [tg] e pos.line X.env = pure false := by rfl) (hw : swappedStores [tg] e X.env = pure none := by rfl)
    (h1 : (assignEach [tg] X.env).map (·.2) = [assign tg X.env] := by rfl) : PS X (.Assign [tg] e pos) (tAsg te g) := by
  intro pins s σ H D I h
  refine wpAny_Assign_stores (thn (he pins s σ H _ I h) fun v s1 ⟨x, H1, I1, r1, q1⟩ => ?_) hs hw
  rw [h1]
  exact thn (hg pins s1 σ H1 x v _ I1 r1 q1) fun _ s2 q => q
theorem ps_set {i : Nat} {x : Str} {e : Expr} {te : TE} {pos' : Pos} (hN : X.N.Nodup) (hi : X.N[i]? = some x) (hx : Loc X.env.scope x) (he : PE X e te) (hs : swapsWith e (some (.Name x pos')) pos.line X.env = pure false := by rfl) (hf : X.fn x = true ∨ X.env.scope.names.lookup x = some .local := by first | exact .inl rfl | exact .inr rfl | assumption) :
    PS X (.Assign [.Name x pos'] e pos) (tAsg te (gName i)) := by
  intro pins s σ H D I h
  refine wpAny_Assign_Name (thn (he pins s σ H _ I h) fun v s1 ⟨y, H1, I1, r1, q1⟩ => ?_) hs
  exact store_ok I1 hN hi hx r1 (fun s2 I2 => ⟨_, H1, I2, q1⟩) hf
def tPar (i j : Nat) (ta : TA) : TS := fun D σ H => ta σ H fun vs H1 => ∃ v w, vs = [v, w] ∧ D.nx ((σ.set i (some v)).set j (some w)) H1
theorem ps_par {i j : Nat} {x y : Str} {a b : Expr} {ta : TA} {px py pt : Pos} {kt k2 pt2} (hc : X.calm = true) (hN : X.N.Nodup) (hi : X.N[i]? = some x) (hj : X.N[j]? = some y) (hij : i ≠ j)
    (hx : X.env.scope.names.lookup x = some .local) (hy : X.env.scope.names.lookup y = some .local) (ha : PA X [a, b] ta)
    (hw : swappedStores [.Tuple [.Name x px, .Name y py] kt pt] (.Tuple [a, b] k2 pt2) X.env = pure (some [x, y]))
    (hs : swapsWithSole [.Tuple [.Name x px, .Name y py] kt pt] (.Tuple [a, b] k2 pt2) pos.line X.env = pure false := by rfl) :
    PS X (.Assign [.Tuple [.Name x px, .Name y py] kt pt] (.Tuple [a, b] k2 pt2) pos) (tPar i j ta) := by
  intro pins s σ H D I h
  rw [exec_Assign_arm]
  refine wpAny_bind (wpAny_standAt ?_)
  rw [hs]
  refine wpAny_bind (wpAny_pure ?_)
  rw [if_neg (by decide)]
  refine wpAny_bind (Tuple_ (thn (ha _ pins s σ H _ I h) fun us s1 ⟨vs, H1, I1, r1, q1⟩ => ?_))
  obtain ⟨v, w, e1, q1⟩ := q1
  subst e1
  obtain ⟨u1, u2, rfl, rv, rw'⟩ : ∃ u1 u2, us = [u1, u2] ∧ RelV v u1 ∧ RelV w u2 := by
    cases r1 with
    | cons p q =>
      cases q with
      | cons p' q' =>
        cases q'
        exact ⟨_, _, rfl, p, p'⟩
  refine wpAny_newObj_type ?_ (by show 2 ≤ sizeLine; decide)
  have I2 : Inv X pins σ H1 { s1 with heap := s1.heap.push { cls := .type "tuple", data := .seq [u1, u2].toArray } } := I1.kept (t' := s1.toks) fun b o e => Heap.get?_push_of_some _ e
  rw [hw]
  refine wpAny_bind (wpAny_pure ?_)
  show wpAny (model X.prog X.w) X.A (do rule "assign.swapped-stores"; let items ← unpackItems (.ref s1.heap.objs.size) 2 none; assignInOrder [fun v => bindName X.env y v, fun v => bindName X.env x v] items.reverse; pure Flow.next) _ _ _
  refine wpAny_bind (wpAny_rule (wpAny_bind (unpackItems_tuple (items := #[u1, u2]) (I.ok.hd hc) (IsTup.new s1.heap _) fun h' hx' => ?_)))
  have I3 := I2.kept (h' := h') (t' := s1.toks) fun b o e => hx' b o (Nat.ne_of_lt (Heap.lt_size e)) e
  show wpAny _ _ (assignInOrder [fun v => bindName X.env y v, fun v => bindName X.env x v] [u2, u1] >>= fun _ => pure Flow.next) _ _ _
  refine wpAny_bind (assignInOrder_cons (wpAny_bindName (store_ok I3 hN hj (.inl hy) rw' (fun s2 I4 => ?_) (.inr hy))))
  refine assignInOrder_cons (wpAny_bindName (store_ok I4 hN hi (.inl hx) rv (fun s3 I5 => assignInOrder_nil (wpAny_pure ?_)) (.inr hx)))
  rw [List.set_comm _ _ (Ne.symm hij)] at I5
  exact ⟨_, H1, I5, q1⟩
def tAug (i : Nat) (te : TE) (ti : TIp) : TS := fun D σ H => ∃ x, σ[i]? = some (some x) ∧ te σ H fun y H1 => ti x y H1 fun z H2 => D.nx (σ.set i (some z)) H2
theorem ps_aug {i : Nat} {x : Str} {e : Expr} {te : TE} {op : Operator} {ti : TIp} {pos' : Pos} (hN : X.N.Nodup) (hi : X.N[i]? = some x) (hx : Loc X.env.scope x) (he : PE X e te) (ho : PIp X op ti) (hf : X.fn x = true ∨ X.env.scope.names.lookup x = some .local := by first | exact .inl rfl | exact .inr rfl | assumption) :
    PS X (.AugAssign (.Name x pos') op e pos) (tAug i te ti) := by
  intro pins s σ H D I h
  obtain ⟨v, e1, h⟩ := h
  obtain ⟨m, hn, hl⟩ := I.loc
  have vis : Vis X.env.scope x := by rcases hx with k | k; exact .inl k; exact .inr (.inl k)
  obtain ⟨u, r, l⟩ := hl i x v hi e1 vis
  refine wpAny_AugAssign_Name ?_
  have go : wpAny (model X.prog X.w) X.A (eval e X.env) (fun w s₂ => wpAny (model X.prog X.w) X.A (inplaceOp op u w) (fun r s₃ => wpAny (model X.prog X.w) X.A (storeName X.env x r) (fun _ => SP X pins D .next) X.xe s₃) X.xe s₂) X.xe s := by
    refine thn (he pins s σ H _ I h) fun w s1 ⟨y, H1, I1, r1, q1⟩ => ?_
    refine thn (ho pins s1 σ H1 v y u w _ I1 r r1 q1) fun z s2 ⟨zv, H2, I2, r2, q2⟩ => ?_
    exact store_ok I2 hN hi hx r2 (fun s3 I3 => ⟨_, H2, I3, q2⟩) hf
  rcases l with ⟨hk, hm⟩ | ⟨hk, c, hc, hcell⟩
  · exact wpAny_loadName_local I.ok.kind hk hn hm go
  · rcases hk with hk | hk
    · exact wpAny_loadName_cell I.ok.kind hk hc hcell go
    · rcases hx with k | k
      · have : X.env.scope.names.lookup x = some .free := hk
        rw [k] at this; cases this
      · have : X.env.scope.names.lookup x = some .free := hk
        rw [k] at this; cases this
def tAugS (to ti te : TE) (tget : V → V → Hp → VK → Prop) (tip : TIp) (tset : TSet) : TS := fun D σ H => to σ H fun o H1 => ti σ H1 fun i H2 => tget o i H2 fun x H3 => te σ H3 fun y H4 => tip x y H4 fun z H5 => tset o i z H5 fun H6 => D.nx σ H6
def PGet (X : Cx) (t : V → V → Hp → VK → Prop) : Prop :=
  ∀ (pins : List (Addr × Obj)) (s : Shared) (σ : St) (H : Hp) (o i : V) (ov iv : Value) (Q : VK), Inv X pins σ H s → RelV o ov → RelV i iv → t o i H Q →
    wpAny (model X.prog X.w) X.A (getItem ov iv) (EP X pins σ Q) X.xe s
theorem ps_augS {o i e : Expr} {to ti te : TE} {tget : V → V → Hp → VK → Prop} {tip : TIp} {tset : TSet} {op : Operator} {tpos : Pos} (ho : PE X o to) (hi : PE X i ti) (hg : PGet X tget) (he : PE X e te) (hp : PIp X op tip) (hs : PSet X tset)
    (ha : ∀ ov iv new, augStore i ov iv new = (do holding [new, ov, iv] (setItem ov iv new); release [new, ov, iv] []; pure .next) := by intros; rfl) : PS X (.AugAssign (.Subscript o i tpos) op e pos) (tAugS to ti te tget tip tset) := by
  intro pins s σ H D I h
  refine wpAny_AugAssign_SubscriptAny (thn (ho pins s σ H _ I h) fun ov s1 ⟨x1, H1, I1, r1, q1⟩ => ?_) ha
  refine thn (hi pins s1 σ H1 _ I1 q1) fun iv s2 ⟨x2, H2, I2, r2, q2⟩ => ?_
  refine thn (hg pins s2 σ H2 x1 x2 ov iv _ I2 r1 r2 q2) fun old s3 ⟨x3, H3, I3, r3, q3⟩ => ?_
  refine thn (he pins s3 σ H3 _ I3 q3) fun v s4 ⟨x4, H4, I4, r4, q4⟩ => ?_
  refine thn (hp pins s4 σ H4 x3 x4 old v _ I4 r3 r4 q4) fun new s5 ⟨x5, H5, I5, r5, q5⟩ => ?_
  exact thn (hs pins s5 σ H5 x1 x2 x5 ov iv new _ I5 r1 r2 r5 q5) fun _ s6 ⟨H6, I6, q6⟩ => ⟨σ, H6, I6, q6⟩
def ipI (f : Int → Int → Int) : TIp := fun x y H Q => ∃ i j, x = .int i ∧ y = .int j ∧ Q (.int (f i j)) H
theorem ip_add : PIp X .Add (ipI fun i j => i + j) := by
  intro pins s σ H x y v u Q I r1 r2 h
  obtain ⟨i, j, e1, e2, q⟩ := h
  subst e1; subst e2
  obtain ⟨t, rfl⟩ := r1
  obtain ⟨t', rfl⟩ := r2
  exact iadd_int ⟨.int _, H, I.tok _, ⟨_, rfl⟩, q⟩
end
section
variable {X : Cx} {pos : Pos}
def tWhile (c : TT) (tb : TS) : TS := fun D σ H => ∃ W : Nat → St → Hp → Prop, (∃ m, W m σ H) ∧ ∀ m σ H, W m σ H →
  c σ H fun b H1 => if b = true then ∃ N : St → Hp → Prop, (∀ σ' H', N σ' H' → ∃ m', m' < m ∧ W m' σ' H') ∧ tb { D with nx := N, ct := N, bk := D.nx } σ H1 else D.nx σ H1
theorem ps_while {c : Expr} {body : List Stmt} {tc : TT} {tb : TS} (hp : PassesOwn (model X.prog X.w) X.A X.env X.xe) (hc : PT X c tc) (hb : PSs X body tb) : PS X (.While c body [] pos) (tWhile tc tb) := by
  intro pins s σ H D I h
  obtain ⟨W, ⟨m0, w0⟩, turn⟩ := h
  refine wpAny_While (codeAny_whileLoop (fun n s' => ∃ σ' H', Inv X pins σ' H' s' ∧ W n σ' H') ?_ m0 ⟨σ, H, I, w0⟩)
  rintro n s1 ⟨σ1, H1, I1, w1⟩
  refine wpAny_passesOwn hp (thn (hc pins s1 σ1 H1 _ I1 (turn n σ1 H1 w1)) fun b s2 ⟨H2, I2, q2⟩ => ?_)
  cases b with
  | true =>
    obtain ⟨N, hN, q2⟩ := q2
    rw [if_pos rfl]
    refine wpAny_passesOwn hp (thn (hb pins s2 σ1 H2 _ I2 q2) fun f s3 q3 => ?_)
    cases f with
    | next =>
      obtain ⟨σ3, H3, I3, n3⟩ := q3
      obtain ⟨m', hm, w3⟩ := hN σ3 H3 n3
      exact ⟨m', hm, σ3, H3, I3, w3⟩
    | cont =>
      obtain ⟨σ3, H3, I3, n3⟩ := q3
      obtain ⟨m', hm, w3⟩ := hN σ3 H3 n3
      exact ⟨m', hm, σ3, H3, I3, w3⟩
    | brk => exact q3
    | ret v => exact q3
  | false =>
    rw [if_neg Bool.false_ne_true]
    exact wpAny_execs_nil ⟨σ1, H2, I2, q2⟩
end
structure It where
  go : Nat → Hp → Prop
  yld : Nat → Hp → V → Hp → Prop
  stop : Nat → Hp → Prop
def FpOk (X : Cx) (pins : List (Addr × Obj)) (H : Hp) (b : Addr) : Prop :=
  H b = none ∧ b ≠ X.env.locals ∧ b ∉ X.fs ∧ (b ∈ X.ex ∨ X.s₀.heap.objs.size ≤ b) ∧ (∀ x c, X.env.cells.lookup x = some c → c ≠ b) ∧ ∀ p ∈ X.pn ++ pins, p.1 ≠ b
theorem Inv.fpOk {X : Cx} {pins : List (Addr × Obj)} {σ : St} {H H' : Hp} {s : Shared} {b : Addr} (I : Inv X pins σ H s) (hb : s.heap.objs.size ≤ b) (hn : H' b = none) : FpOk X pins H' b := by
  refine ⟨hn, Nat.ne_of_gt (Nat.lt_of_lt_of_le I.lt hb), I.nofs hb, .inr (Nat.le_trans I.sz hb), fun x c e z => ?_, fun p hp z => ?_⟩
  · obtain ⟨v, q⟩ := I.cell x c e
    exact absurd (Nat.lt_of_lt_of_le q.lt (by rw [z]; exact hb)) (Nat.lt_irrefl _)
  · exact absurd (Nat.lt_of_lt_of_le (Heap.lt_size (I.pin p hp).1) (by rw [z]; exact hb)) (Nat.lt_irrefl _)
structure Turn (P : Program) (w : World) (K : PySem.W.Frag) (tg : Expr) (J : It) (fp : List Addr) (it : Addr) (tn : Nat → Heap → Prop) : Prop where
  mem : it ∈ fp
  obj : ∀ i h, tn i h → ∀ b ∈ fp, ∃ o, h.get? b = some o ∧ ∀ v, o.data ≠ .cell v
  keep : ∀ i h h', tn i h → (∀ b ∈ fp, ∀ o, h.get? b = some o → h'.get? b = some o) → tn i h'
  item : ∀ (X : Cx), X.prog = P → X.w = w → X.K = K → X.calm = true → ∀ (i : Nat) (pins : List (Addr × Obj)) (s : Shared) (σ : St) (H : Hp) (E : Value → Shared → Prop), Inv X pins σ H s → (∀ b ∈ fp, FpOk X pins H b) → tn i s.heap → J.go i H →
    wpAny (model P w) X.A (pyNext (.ref it)) (fun r s1 => ∃ u, r = some u ∧
      wpAny (model P w) X.A (letOwnedTupleGo tg (.ref it) u) (fun _ s2 => ∃ x H', Inv X pins σ H' s2 ∧ RelV x u ∧ J.yld i H x H' ∧ tn (i + 1) s2.heap ∧ ∀ b ∈ fp, H' b = none) E s1) E s
  done : ∀ (X : Cx), X.prog = P → X.w = w → X.K = K → X.calm = true → ∀ (i : Nat) (pins : List (Addr × Obj)) (s : Shared) (σ : St) (H : Hp) (E : Value → Shared → Prop), Inv X pins σ H s → (∀ b ∈ fp, FpOk X pins H b) → tn i s.heap → J.stop i H →
    wpAny (model P w) X.A (pyNext (.ref it)) (fun r s1 => r = none ∧ Inv X pins σ H s1) E s
  self : ∀ (A : Around) (i : Nat) (s : Shared) (Q : Value → Shared → Prop) (E : Value → Shared → Prop), tn i s.heap → Q (.ref it) s → wpAny (model P w) A (pyIter (.ref it)) Q E s
abbrev TI := St → Hp → (It → Hp → Prop) → Prop
def PIE (X : Cx) (pins : List (Addr × Obj)) (σ : St) (tg : Expr) (R : It → Hp → Prop) (itv : Value) (s2 : Shared) : Prop :=
  ∃ (it : Addr) (fp : List Addr) (tn : Nat → Heap → Prop) (J : It) (H' : Hp), itv = .ref it ∧ Inv X pins σ H' s2 ∧ Turn X.prog X.w X.K tg J fp it tn ∧ tn 0 s2.heap ∧ (∀ b ∈ fp, FpOk X pins H' b) ∧ R J H'
def PI (X : Cx) (tg iter : Expr) (wi : TI) : Prop :=
  ∀ (pins : List (Addr × Obj)) (s : Shared) (σ : St) (H : Hp) (R : It → Hp → Prop), Inv X pins σ H s → wi σ H R →
    wpAny (model X.prog X.w) X.A (eval iter X.env) (fun v s1 => wpAny (model X.prog X.w) X.A (pyIter v) (PIE X pins σ tg R) X.xe s1) X.xe s
theorem go_of {M : Model} {A : Around} {E : Value → Shared → Prop} {s : Shared} {tg : Expr} {it : Addr} {u : Value} {o : Obj} {n : String} {vs : Array Value} {Q : Unit → Shared → Prop} (ho : s.heap.get? it = some o) (hc : o.cls = .type n) (hd : o.data = .fields vs)
    (hn : ["enumerate", "zip", "dict_itemiterator", "dict_reverseitemiterator", "odict_iterator", "itertools.zip_longest", "itertools.pairwise"].contains n = false) (hQ : Q () s) : wpAny M A (letOwnedTupleGo tg (.ref it) u) Q E s := by
  unfold letOwnedTupleGo
  cases tg <;> first
    | exact wpAny_pure hQ
    | (cases u <;> first
        | exact wpAny_pure hQ
        | (refine wpAny_bind (wpAny_load ho ?_)
           rw [hc, hd]
           show wpAny M A (if (["enumerate", "zip", "dict_itemiterator", "dict_reverseitemiterator", "odict_iterator", "itertools.zip_longest", "itertools.pairwise"].contains n && vs[0]? == some (rawInt _)) = true then _ else _) Q E s
           rw [if_neg (by intro h; rw [hn, Bool.false_and] at h; cases h)]
           exact wpAny_pure hQ))
def Itl (K : PySem.W.Frag) (a : Addr) : It :=
  ⟨fun i H => ∃ xs x, SqL K H a xs ∧ xs[i]? = some x, fun i H x H' => H' = H ∧ ∀ xs, SqL K H a xs → xs[i]? = some x, fun i H => ∃ xs, SqL K H a xs ∧ xs.length ≤ i⟩
def Itr (lo : Int) (n : Nat) : It := ⟨fun i _ => i < n, fun i H x H' => H' = H ∧ x = .int (lo + i), fun i _ => n ≤ i⟩
theorem turn_list {P : Program} {w : World} {K : PySem.W.Frag} {tg : Expr} (a it : Addr) : Turn P w K tg (Itl K a) [it] it (fun i h => h.IsListIter it a i) where
  mem := by simp
  obj := fun i h st b hb => by
    have e : b = it := by simpa using hb
    subst e
    obtain ⟨o, e, c, d⟩ := st
    exact ⟨o, e, fun v z => by rw [d] at z; cases z⟩
  keep := fun i h h' st k => st.at fun o e => k it (by simp) o e
  item := by
    intro X hP hw hK hc i pins s σ H E I hf st hg
    subst hP hw hK
    obtain ⟨xs, x, hq, hx⟩ := hg
    obtain ⟨its, rv, p, hz⟩ := I.list hq
    obtain ⟨u, hu, ru⟩ := rv.get hx
    obtain ⟨f0, f1, f2, f3, f4, f5⟩ := hf it (by simp)
    refine wpAny_pyNext_list_item st p.isList (x := u) (by simpa using hu) fun h' st' sb => ?_
    have I1 : Inv X pins σ H { s with heap := h' } := I.turned (t' := s.toks) (fun b o hb e => (sb.2 b hb).trans e) f0 f1 f3 f4 f5
    obtain ⟨o, e, c, d⟩ := id st'
    exact ⟨u, rfl, go_of (s := { s with heap := h' }) e c d (by decide) ⟨x, H, I1, ru, ⟨rfl, fun ys hy => by rw [I.list_inj hy hq]; exact hx⟩, st', fun b hb => (hf b hb).1⟩⟩
  done := by
    intro X hP hw hK hc i pins s σ H E I hf st hg
    subst hP hw hK
    obtain ⟨xs, hq, hx⟩ := hg
    obtain ⟨its, rv, p, hz⟩ := I.list hq
    obtain ⟨f0, f1, f2, f3, f4, f5⟩ := hf it (by simp)
    have hl := rv.length
    exact wpAny_pyNext_list_end (I.ok.hd hc) st p.isList (by simp; omega) fun h' eb => ⟨rfl, I.turned (t' := s.toks) (fun b o hb e => eb b o hb e) f0 f1 f3 f4 f5⟩
  self := fun _ _ _ _ _ st h => wpAny_pyIter_listiter st h
theorem turn_range {P : Program} {w : World} {K : PySem.W.Frag} {tg : Expr} (it : Addr) (lo : Int) (n : Nat) : Turn P w K tg (Itr lo n) [it] it (fun i h => IsRangeIter h it (lo + (i : Nat) * 1) ((n : Int) - (i : Nat)) 1) where
  mem := by simp
  obj := fun i h st b hb => by
    have e : b = it := by simpa using hb
    subst e
    exact ⟨_, st, fun v z => by
      have z' : Data.fields _ = Data.cell v := z
      cases z'⟩
  keep := fun i h h' st k => k it (by simp) _ st
  item := by
    intro X hP hw hK hc i pins s σ H E I hf st hg
    subst hP hw hK
    obtain ⟨f0, f1, f2, f3, f4, f5⟩ := hf it (by simp)
    have W := Walks.range (prog := X.prog) (w := X.w) (I.ok.hd hc) it lo 1 n
    refine W.item i s _ _ hg st fun v h' tk hv st' kk => ?_
    obtain ⟨t, rfl⟩ := hv
    have I1 : Inv X pins σ H { s with heap := h', toks := tk } := I.turned (fun b o hb e => kk b o (by simpa using hb) e) f0 f1 f3 f4 f5
    refine ⟨_, rfl, go_of (s := { s with heap := h', toks := tk }) (n := "range_iterator") st' rfl rfl (by decide) ⟨.int (lo + i), H, I1, ⟨t, ?_⟩, ⟨rfl, rfl⟩, st', fun b hb => (hf b hb).1⟩⟩
    rw [Int.mul_one]
  done := by
    intro X hP hw hK hc i pins s σ H E I hf st hg
    subst hP hw hK
    obtain ⟨f0, f1, f2, f3, f4, f5⟩ := hf it (by simp)
    exact wpAny_pyNext_range_end (I.ok.hd hc) st (by have : n ≤ i := hg; omega) fun h' eb => ⟨rfl, I.turned (t' := s.toks) (fun b o hb e => eb b o hb e) f0 f1 f3 f4 f5⟩
  self := fun _ _ _ _ _ st h => wpAny_pyIter_rangeiter st h
end L2

namespace L2
open PySem PySem.Spec PyProof.Rows
section
variable {X : Cx} {tg : Expr}
def iList (K : PySem.W.Frag) (tl : TE) : TI := fun σ H R => tl σ H fun x H1 => ∃ a, x = .ref a ∧ (∃ xs, SqL K H1 a xs) ∧ R (Itl K a) H1
theorem pi_list {l : Expr} {tl : TE} (hl : PE X l tl) : PI X tg l (iList X.K tl) := by
  intro pins s σ H R I h
  refine thn (hl pins s σ H _ I h) fun v s1 ⟨x, H1, I1, r1, q1⟩ => ?_
  obtain ⟨a, e, ⟨xs, hq⟩, q⟩ := q1
  subst e
  cases r1
  obtain ⟨its, rv, p, hz⟩ := I1.list hq
  refine wpAny_pyIter_list p.isList ?_
  refine ⟨s1.heap.objs.size, [s1.heap.objs.size], _, _, H1, rfl, I1.kept (t' := s1.toks) fun b o e => Heap.get?_push_of_some _ e, turn_list a _, ⟨_, Heap.get?_push_size _ rfl, rfl, rfl⟩, fun b hb => ?_, q⟩
  have e : b = s1.heap.objs.size := by simpa using hb
  subst e
  exact I1.fpOk (Nat.le_refl _) (I1.hok.fresh (Nat.le_refl _))
theorem range_it {pins : List (Addr × Obj)} {σ : St} {H : Hp} {s : Shared} {R : It → Hp → Prop} {E : Value → Shared → Prop} {lo hi : Int} {t u v : Tok} {tk : Nat} (I : Inv X pins σ H s) (h1 : -(2 ^ 62) ≤ lo) (h2 : lo < 2 ^ 62) (h3 : -(2 ^ 62) ≤ hi) (h4 : hi < 2 ^ 62)
    (q : R (Itr lo (hi - lo).toNat) H) : wpAny (model X.prog X.w) X.A (pyIter (.ref s.heap.objs.size)) (PIE X pins σ tg R) E { s with heap := s.heap.push { cls := .type "range", data := .fields #[.int lo t, .int hi u, .int 1 v] }, toks := tk } := by
  refine wpAny_pyIter_range (IsRange.new ..) (small_one h1 h2 h3 h4) ?_
  have I1 : Inv X pins σ H { s with heap := s.heap.push { cls := .type "range", data := .fields #[.int lo t, .int hi u, .int 1 v] }, toks := tk } := I.kept fun b o e => Heap.get?_push_of_some _ e
  refine ⟨(s.heap.push { cls := .type "range", data := .fields #[.int lo t, .int hi u, .int 1 v] }).objs.size, [(s.heap.push { cls := .type "range", data := .fields #[.int lo t, .int hi u, .int 1 v] }).objs.size], _, _, H, rfl,
    I1.kept (t' := tk) fun b o e => Heap.get?_push_of_some _ e, turn_range _ lo (hi - lo).toNat, ?_, fun b hb => ?_, q⟩
  · have e1 : lo + ((0 : Nat) : Int) * 1 = lo := by simp
    have e2 : (((hi - lo).toNat : Nat) : Int) - ((0 : Nat) : Int) = Builtin.Range.rangeSize lo hi 1 := by rw [rangeSize_one]; split <;> omega
    show IsRangeIter _ _ (lo + ((0 : Nat) : Int) * 1) ((((hi - lo).toNat : Nat) : Int) - ((0 : Nat) : Int)) 1
    rw [e1, e2]
    exact Heap.get?_push_size _ rfl
  · have e : b = (s.heap.push { cls := .type "range", data := .fields #[.int lo t, .int hi u, .int 1 v] }).objs.size := by simpa using hb
    subst e
    exact I1.fpOk (Nat.le_refl _) (I1.hok.fresh (Nat.le_refl _))
def iRng1 (ta : TA) : TI := fun σ H R => ta σ H fun vs H1 => ∃ j : Int, vs = [.int j] ∧ -(2 ^ 62) ≤ j ∧ j < 2 ^ 62 ∧ R (Itr 0 j.toNat) H1
theorem pi_range1 {a : Expr} {ta : TA} {p pos : Pos} (hg : Gl X "range") (hm : X.mg "range" = none) (ha : PA X [a] ta) (hs : starEach [a] X.env = [(false, eval a X.env)] := by rfl) : PI X tg (.Call (.Name "range" p) [a] [] pos) (iRng1 ta) := by
  intro pins s σ H R I h
  refine Call_ (ld_blt I hg hm boot_range (PyProof.Rows.callWith_type1 (thn (ha pos pins s σ H _ I h) fun us s1 ⟨vs, H1, I1, r1, q1⟩ => ?_) hs rfl))
  obtain ⟨j, e, q1, q2, q⟩ := q1
  subst e
  cases r1 with
  | cons r rr =>
    cases rr
    obtain ⟨t, rfl⟩ := r
    exact call_range_1 (range_it I1 (by omega) (by omega) q1 q2 (by simpa using q))
def tFor (wi : TI) (g : TG) (tb : TS) : TS := fun D σ H => wi σ H fun J H1 => ∃ W : Nat → Nat → St → Hp → Prop, (∃ m, W 0 m σ H1) ∧ ∀ i m σ H, W i m σ H →
  (J.stop i H ∧ D.nx σ H) ∨ (J.go i H ∧ ∃ N : St → Hp → Prop, (∀ σ' H', N σ' H' → ∃ m', m' < m ∧ W (i + 1) m' σ' H') ∧ ∀ x H', J.yld i H x H' → g x σ H' fun σ2 H2 => tb { D with nx := N, ct := N, bk := D.nx } σ2 H2)
def pinsAt (fp : List Addr) (h : Heap) : List (Addr × Obj) := fp.filterMap fun b => (h.get? b).map fun o => (b, o)
theorem mem_pinsAt {fp : List Addr} {h : Heap} {b : Addr} {o : Obj} (hb : b ∈ fp) (e : h.get? b = some o) : (b, o) ∈ pinsAt fp h := List.mem_filterMap.mpr ⟨b, hb, by rw [e]; rfl⟩
theorem of_pinsAt {fp : List Addr} {h : Heap} {p : Addr × Obj} (hp : p ∈ pinsAt fp h) : p.1 ∈ fp ∧ h.get? p.1 = some p.2 := by
  obtain ⟨b, hb, e⟩ := List.mem_filterMap.mp hp
  cases q : h.get? b with
  | none => rw [q] at e; cases e
  | some o =>
    rw [q] at e
    have e' : (b, o) = p := Option.some.inj e
    subst e'
    exact ⟨hb, q⟩
theorem Inv.pinned {pins : List (Addr × Obj)} {σ : St} {H : Hp} {s : Shared} {fp : List Addr} (I : Inv X pins σ H s) (hf : ∀ b ∈ fp, FpOk X pins H b) (ho : ∀ b ∈ fp, ∃ o, s.heap.get? b = some o ∧ ∀ v, o.data ≠ .cell v) : Inv X (pins ++ pinsAt fp s.heap) σ H s :=
  I.pins_of fun p hp => (List.mem_append.mp hp).elim (fun z => I.pin p (List.mem_append_right _ z)) fun z => by
    obtain ⟨hb, e⟩ := of_pinsAt z
    obtain ⟨f0, f1, f2, _⟩ := hf p.1 hb
    obtain ⟨o, e', d⟩ := ho p.1 hb
    rw [e] at e'; cases e'
    exact ⟨e, f0, f1, f2, d⟩
theorem Inv.unpinned {pins pl : List (Addr × Obj)} {σ : St} {H : Hp} {s : Shared} (I : Inv X (pins ++ pl) σ H s) : Inv X pins σ H s := I.pins_of fun p hp => I.pin p (List.mem_append_right _ (List.mem_append_left _ hp))
theorem ps_for {iter : Expr} {body : List Stmt} {wi : TI} {g : TG} {tb : TS} {pos : Pos} (hp : PassesOwn (model X.prog X.w) X.A X.env X.xe) (hc : X.calm = true) (hi : PI X tg iter wi) (hg : PG X tg g) (hb : PSs X body tb)
    (hs : ∀ x, foldedSetIterable iter X.env x = pure x := by intro _; rfl) : PS X (.For tg iter body [] pos) (tFor wi g tb) := by
  intro pins s σ H D I h
  refine wpAny_For (thn (hi pins s σ H _ I h) fun v s1 h1 => thn h1 fun itv s2 h2 => ?_) hs
  obtain ⟨it, fp, tn, J, H2, e, I2, T, st2, f2, W, ⟨m0, w0⟩, turn⟩ := h2
  subst e
  have stat : ∀ {H' : Hp}, (∀ b ∈ fp, H' b = none) → ∀ b ∈ fp, FpOk X pins H' b := fun hn b hb => ⟨hn b hb, (f2 b hb).2⟩
  refine codeAny_forLoop_any (fun n s' => ∃ i σ' H', Inv X pins σ' H' s' ∧ tn i s'.heap ∧ (∀ b ∈ fp, H' b = none) ∧ W i n σ' H') ?_ m0 ⟨0, σ, H2, I2, st2, fun b hb => (f2 b hb).1, w0⟩
  rintro n s3 ⟨i, σ3, H3, I3, st3, fr3, w3⟩
  rcases turn i n σ3 H3 w3 with ⟨stop, qn⟩ | ⟨go, N, hN, step⟩
  · refine wpAny_passesOwn hp (thn (T.done X rfl rfl rfl hc i pins s3 σ3 H3 X.xe I3 (stat fr3) st3 stop) fun r s4 ⟨hr, I4⟩ => ?_)
    subst hr
    exact wpAny_execs_nil ⟨σ3, H3, I4, qn⟩
  · refine wpAny_passesOwn hp (thn (T.item X rfl rfl rfl hc i pins s3 σ3 H3 X.xe I3 (stat fr3) st3 go) fun r s4 ⟨u, hr, h4⟩ => ?_)
    subst hr
    refine wpAny_passesOwn hp (thn h4 fun _ s5 ⟨x, H5, I5, r5, y5, st5, fr5⟩ => ?_)
    have I5' := I5.pinned (stat fr5) (T.obj _ _ st5)
    refine wpAny_passesOwn hp (thn (hg _ s5 σ3 H5 x u _ I5' r5 (step x H5 y5)) fun _ s6 ⟨σ6, H6, I6, q6⟩ => ?_)
    refine wpAny_passesOwn hp (thn (hb _ s6 σ6 H6 _ I6 q6) fun f s7 q7 => ?_)
    have again : ∀ {σ7 : St} {H7 : Hp}, Inv X (pins ++ pinsAt fp s5.heap) σ7 H7 s7 → N σ7 H7 → ∃ m, m < n ∧ ∃ i σ' H', Inv X pins σ' H' s7 ∧ tn i s7.heap ∧ (∀ b ∈ fp, H' b = none) ∧ W i m σ' H' := fun {σ7 H7} I7 n7 => by
      obtain ⟨m', hm, w7⟩ := hN σ7 H7 n7
      refine ⟨m', hm, i + 1, σ7, H7, I7.unpinned, T.keep _ _ _ st5 fun b hb o e => (I7.pin (b, o) (List.mem_append_right _ (List.mem_append_right _ (mem_pinsAt hb e)))).1, fun b hb => ?_, w7⟩
      obtain ⟨o, e, d⟩ := T.obj _ _ st5 b hb
      exact (I7.pin (b, o) (List.mem_append_right _ (List.mem_append_right _ (mem_pinsAt hb e)))).2.1
    cases f with
    | next => obtain ⟨σ7, H7, I7, n7⟩ := q7; exact again I7 n7
    | cont => obtain ⟨σ7, H7, I7, n7⟩ := q7; exact again I7 n7
    | brk => obtain ⟨σ7, H7, I7, q7⟩ := q7; exact ⟨σ7, H7, I7.unpinned, q7⟩
    | ret v => obtain ⟨x7, σ7, H7, I7, r7, q7⟩ := q7; exact ⟨x7, σ7, H7, I7.unpinned, r7, q7⟩
end
theorem for_list {K : PySem.W.Frag} {a : Addr} {xs : List V} {g : TG} {tb : TS} {D : Ends} {σ : St} {H : Hp} (Pv : Nat → St → Hp → Prop) (h0 : Pv 0 σ H) (hl : ∀ i σ H, i ≤ xs.length → Pv i σ H → SqL K H a xs)
    (hs : ∀ i x σ H, xs[i]? = some x → Pv i σ H → g x σ H fun σ2 H2 => tb { D with nx := Pv (i + 1), ct := Pv (i + 1), bk := D.nx } σ2 H2) (hd : ∀ σ H, Pv xs.length σ H → D.nx σ H) :
    ∃ W : Nat → Nat → St → Hp → Prop, (∃ m, W 0 m σ H) ∧ ∀ i m σ H, W i m σ H →
      ((Itl K a).stop i H ∧ D.nx σ H) ∨ ((Itl K a).go i H ∧ ∃ N : St → Hp → Prop, (∀ σ' H', N σ' H' → ∃ m', m' < m ∧ W (i + 1) m' σ' H') ∧ ∀ x H', (Itl K a).yld i H x H' → g x σ H' fun σ2 H2 => tb { D with nx := N, ct := N, bk := D.nx } σ2 H2) := by
  refine ⟨fun i m σ H => m = xs.length - i ∧ i ≤ xs.length ∧ Pv i σ H, ⟨xs.length, by simp, Nat.zero_le _, h0⟩, ?_⟩
  rintro i m σ H ⟨rfl, hi, p⟩
  have q := hl i σ H hi p
  by_cases hlt : i < xs.length
  · refine .inr ⟨⟨xs, xs[i], q, by simp [hlt]⟩, Pv (i + 1), fun σ' H' p' => ⟨xs.length - (i + 1), by omega, rfl, hlt, p'⟩, fun x H' y => ?_⟩
    obtain ⟨e, y⟩ := y
    subst e
    exact hs i x σ _ (y xs q) p
  · have e : i = xs.length := by omega
    subst e
    exact .inl ⟨⟨xs, q, Nat.le_refl _⟩, hd σ H p⟩
theorem for_range {lo : Int} {n : Nat} {g : TG} {tb : TS} {D : Ends} {σ : St} {H : Hp} (Pv : Nat → St → Hp → Prop) (h0 : Pv 0 σ H)
    (hs : ∀ i σ H, i < n → Pv i σ H → g (.int (lo + i)) σ H fun σ2 H2 => tb { D with nx := Pv (i + 1), ct := Pv (i + 1), bk := D.nx } σ2 H2) (hd : ∀ σ H, Pv n σ H → D.nx σ H) :
    ∃ W : Nat → Nat → St → Hp → Prop, (∃ m, W 0 m σ H) ∧ ∀ i m σ H, W i m σ H →
      ((Itr lo n).stop i H ∧ D.nx σ H) ∨ ((Itr lo n).go i H ∧ ∃ N : St → Hp → Prop, (∀ σ' H', N σ' H' → ∃ m', m' < m ∧ W (i + 1) m' σ' H') ∧ ∀ x H', (Itr lo n).yld i H x H' → g x σ H' fun σ2 H2 => tb { D with nx := N, ct := N, bk := D.nx } σ2 H2) := by
  refine ⟨fun i m σ H => m = n - i ∧ i ≤ n ∧ Pv i σ H, ⟨n, by simp, Nat.zero_le _, h0⟩, ?_⟩
  rintro i m σ H ⟨rfl, hi, p⟩
  by_cases hlt : i < n
  · refine .inr ⟨hlt, Pv (i + 1), fun σ' H' p' => ⟨n - (i + 1), by omega, rfl, hlt, p'⟩, fun x H' y => ?_⟩
    obtain ⟨e, y⟩ := y
    subst e y
    exact hs i σ _ hlt p
  · have e : i = n := by omega
    subst e
    exact .inl ⟨Nat.le_refl _, hd σ H p⟩
end L2

namespace L2
open PySem PySem.Spec PyProof.Rows

abbrev R2 := V → V → Hp → VK → Prop
def OpR (X : Cx) (f : Value → Value → Sem Value) (r : R2) : Prop :=
  ∀ (pins : List (Addr × Obj)) (s : Shared) (σ : St) (H : Hp) (x y : V) (v u : Value) (Q : VK), Inv X pins σ H s → RelV x v → RelV y u → r x y H Q →
    wpAny (model X.prog X.w) X.A (f v u) (EP X pins σ Q) X.xe s
def UnR (X : Cx) (f : Value → Sem Value) (r : V → Hp → VK → Prop) : Prop :=
  ∀ (pins : List (Addr × Obj)) (s : Shared) (σ : St) (H : Hp) (x : V) (v : Value) (Q : VK), Inv X pins σ H s → RelV x v → r x H Q →
    wpAny (model X.prog X.w) X.A (f v) (EP X pins σ Q) X.xe s
def CallR (X : Cx) (f : Value) (r : List V → Hp → VK → Prop) : Prop :=
  ∀ (pins : List (Addr × Obj)) (s : Shared) (σ : St) (H : Hp) (xs : List V) (us : List Value) (Q : VK), Inv X pins σ H s → Vals xs us → r xs H Q →
    wpAny (model X.prog X.w) X.A (call f us) (EP X pins σ Q) X.xe s
def TruR (X : Cx) (r : V → Hp → (Bool → Hp → Prop) → Prop) : Prop :=
  ∀ (pins : List (Addr × Obj)) (s : Shared) (σ : St) (H : Hp) (x : V) (v : Value) (Q : Bool → Hp → Prop), Inv X pins σ H s → RelV x v → r x H Q →
    wpAny (model X.prog X.w) X.A (truthy v) (TP X pins σ Q) X.xe s

def tOp (r : R2) (ta tb : TE) : TE := fun σ H Q => ta σ H fun x H1 => tb σ H1 fun y H2 => r x y H2 Q
def tUn (r : V → Hp → VK → Prop) (ta : TE) : TE := fun σ H Q => ta σ H fun x H1 => r x H1 Q
def rI (C : Int → Int → Prop) (g : Int → Int → V) : R2 := fun x y H Q => ∃ i j, x = .int i ∧ y = .int j ∧ C i j ∧ Q (g i j) H
def rI0 (g : Int → Int → V) : R2 := fun x y H Q => ∃ i j, x = .int i ∧ y = .int j ∧ Q (g i j) H
def rU (g : Int → V) : V → Hp → VK → Prop := fun x H Q => ∃ i, x = .int i ∧ Q (g i) H

section
variable {X : Cx} {a b c : Expr} {ta tb tc : TE} {pos : Pos}

theorem binT (ha : PE X a ta) (hb : PE X b tb) {pins : List (Addr × Obj)} {s : Shared} {σ : St} {H : Hp} {R : V → V → Hp → Prop} (I : Inv X pins σ H s)
    (h : ta σ H fun x H1 => tb σ H1 fun y H2 => R x y H2) {Q : Value → Shared → Prop} {f : Value → Value → Sem Value}
    (hf : ∀ v u s2 x y H2, Inv X pins σ H2 s2 → RelV x v → RelV y u → R x y H2 → wpAny (model X.prog X.w) X.A (f v u) Q X.xe s2) :
    wpAny (model X.prog X.w) X.A (eval a X.env) (fun v s₁ => wpAny (model X.prog X.w) X.A (eval b X.env) (fun u s₂ => wpAny (model X.prog X.w) X.A (f v u) Q X.xe s₂) X.xe s₁) X.xe s := by
  refine thn (ha pins s σ H _ I h) fun v s1 ⟨x, H1, I1, r1, q1⟩ => ?_
  refine thn (hb pins s1 σ H1 _ I1 q1) fun u s2 ⟨y, H2, I2, r2, q2⟩ => ?_
  exact hf v u s2 x y H2 I2 r1 r2 q2

theorem pe_op {op : Operator} {r : R2} (ho : OpR X (binaryOp op) r) (ha : PE X a ta) (hb : PE X b tb) : PE X (.BinOp a op b pos) (tOp r ta tb) := by
  intro pins s σ H Q I h
  exact wpAny_BinOp (binT ha hb I h fun v u s2 x y H2 I2 rx ry q => ho pins s2 σ H2 x y v u Q I2 rx ry q)
theorem pe_un {op : UnaryOp} {r : V → Hp → VK → Prop} (ho : UnR X (unaryOp op) r) (ha : PE X a ta) : PE X (.UnaryOp op a pos) (tUn r ta) := by
  intro pins s σ H Q I h
  exact UnaryOp_ (thn (ha pins s σ H _ I h) fun v s1 ⟨x, H1, I1, r1, q1⟩ => ho pins s1 σ H1 x v Q I1 r1 q1)
theorem opI {f : Value → Value → Sem Value} {C : Int → Int → Prop} {g : Int → Int → Int}
    (rule : ∀ (i j : Int) (t u : Tok) (s : Shared) (Q : Value → Shared → Prop) (E : Value → Shared → Prop), C i j → Q (.int (g i j) s.toks) { s with toks := s.toks + 1 } → wpAny (model X.prog X.w) X.A (f (.int i t) (.int j u)) Q E s) :
    OpR X f (rI C fun i j => .int (g i j)) := by
  intro pins s σ H x y v u Q I rx ry h
  obtain ⟨i, j, rfl, rfl, hc, q⟩ := h
  obtain ⟨t, rfl⟩ := rx
  obtain ⟨t', rfl⟩ := ry
  exact rule i j t t' s _ _ hc ⟨.int (g i j), H, I.tok _, ⟨_, rfl⟩, q⟩
theorem opI0 {f : Value → Value → Sem Value} {g : Int → Int → Int}
    (rule : ∀ (i j : Int) (t u : Tok) (s : Shared) (Q : Value → Shared → Prop) (E : Value → Shared → Prop), Q (.int (g i j) s.toks) { s with toks := s.toks + 1 } → wpAny (model X.prog X.w) X.A (f (.int i t) (.int j u)) Q E s) :
    OpR X f (rI0 fun i j => .int (g i j)) := by
  intro pins s σ H x y v u Q I rx ry h
  obtain ⟨i, j, rfl, rfl, q⟩ := h
  obtain ⟨t, rfl⟩ := rx
  obtain ⟨t', rfl⟩ := ry
  exact rule i j t t' s _ _ ⟨.int (g i j), H, I.tok _, ⟨_, rfl⟩, q⟩
theorem opB0 {f : Value → Value → Sem Value} {g : Int → Int → Bool}
    (rule : ∀ (i j : Int) (t u : Tok) (s : Shared) (Q : Value → Shared → Prop) (E : Value → Shared → Prop), Q (.bool (g i j)) s → wpAny (model X.prog X.w) X.A (f (.int i t) (.int j u)) Q E s) :
    OpR X f (rI0 fun i j => .bl (g i j)) := by
  intro pins s σ H x y v u Q I rx ry h
  obtain ⟨i, j, rfl, rfl, q⟩ := h
  obtain ⟨t, rfl⟩ := rx
  obtain ⟨t', rfl⟩ := ry
  exact rule i j t t' s _ _ ⟨.bl (g i j), H, I, rfl, q⟩

def CDiv (i j : Int) : Prop := 0 < j ∧ j < 1073741824
def CPow (i j : Int) : Prop := 0 ≤ j ∧ j ≤ 1000000 ∧ i.natAbs < 2 ^ 64
def CMul (i j : Int) : Prop := (-(2 ^ 64) < i ∧ i < 2 ^ 64) ∨ (-(2 ^ 64) < j ∧ j < 2 ^ 64)
theorem CMul.ok {i j : Int} (h : CMul i j) : IntMulOk i j := by
  rcases h with ⟨h1, h2⟩ | ⟨h1, h2⟩
  · exact .of_left (intBits_le_64 h1 h2)
  · exact .of_right (intBits_le_64 h1 h2)
theorem op_add : OpR X (binaryOp .Add) (rI0 fun i j => .int (i + j)) := opI0 fun _ _ _ _ _ _ _ q => add_int q
theorem op_sub : OpR X (binaryOp .Sub) (rI0 fun i j => .int (i - j)) := opI0 fun _ _ _ _ _ _ _ q => sub_int q
theorem op_mul : OpR X (binaryOp .Mult) (rI CMul fun i j => .int (i * j)) := opI fun _ _ _ _ _ _ _ hc q => mul_int q hc.ok
theorem op_fdiv : OpR X (binaryOp .FloorDiv) (rI CDiv fun i j => .int (i / j)) := opI fun i j _ _ _ _ _ hc q => by
  have h1 : (0 : Int) < j := hc.1
  have h2 : j < 1073741824 := hc.2
  exact floordiv_int (by omega) (by rw [Int.fdiv_eq_ediv_of_nonneg i (by omega)]; exact q) (.inl (PyProof.noPylong_small (by omega)))
theorem op_mod : OpR X (binaryOp .Mod) (rI (fun _ j => 0 < j) fun i j => .int (i % j)) := opI fun i j _ _ _ _ _ hc q => by
  have h1 : (0 : Int) < j := hc
  exact mod_int' (by omega) (by rw [Int.fmod_eq_emod_of_nonneg i (by omega)]; exact q)
theorem op_pow : OpR X (binaryOp .Pow) (rI CPow fun i j => .int (i ^ j.toNat)) := opI fun _ _ _ _ _ _ _ hc q => pow_int_small hc.1 hc.2.1 hc.2.2 q
theorem unI {f : Value → Sem Value} {g : Int → Int}
    (rule : ∀ (i : Int) (t : Tok) (s : Shared) (Q : Value → Shared → Prop) (E : Value → Shared → Prop), Q (.int (g i) s.toks) { s with toks := s.toks + 1 } → wpAny (model X.prog X.w) X.A (f (.int i t)) Q E s) :
    UnR X f (rU fun i => .int (g i)) := by
  intro pins s σ H x v Q I rx h
  obtain ⟨i, rfl, q⟩ := h
  obtain ⟨t, rfl⟩ := rx
  exact rule i t s _ _ ⟨.int (g i), H, I.tok _, ⟨_, rfl⟩, q⟩
theorem un_neg : UnR X (unaryOp .USub) (rU fun i => .int (-i)) := unI fun _ _ _ _ _ q => neg_int q
end
def scal : V → V → Bool
  | .non, .non => true | .non, .int _ => true | .int _, .non => true | .non, .bl _ => true | .bl _, .non => true | .non, .str _ => true | .str _, .non => true
  | .int _, .int _ => true | .bl _, .bl _ => true | .str _, .str _ => true | .byt _, .byt _ => true
  | .int _, .str _ => true | .str _, .int _ => true | .bl _, .str _ => true | .str _, .bl _ => true
  | _, _ => false
def rEq : R2 := fun x y H Q => scal x y = true ∧ Q (.bl (decide (x = y))) H
def rNe : R2 := fun x y H Q => scal x y = true ∧ Q (.bl (!decide (x = y))) H

theorem dec_int {i j : Int} : decide (V.int i = V.int j) = (i == j) := by
  rw [Bool.eq_iff_iff]
  simp
theorem dec_bl {i j : Bool} : decide (V.bl i = V.bl j) = (i == j) := by
  rw [Bool.eq_iff_iff]
  simp
theorem dec_str {i j : Str} : decide (V.str i = V.str j) = (i == j) := by
  rw [Bool.eq_iff_iff]
  simp
theorem dec_byt {i j : Array UInt8} : decide (V.byt i = V.byt j) = (i.toList == j.toList) := by
  rw [Bool.eq_iff_iff]
  cases i
  cases j
  simp

section
variable {X : Cx} {a b c : Expr} {ta tb tc : TE} {pos : Pos}
theorem fin_bl {pins : List (Addr × Obj)} {σ : St} {H : Hp} {s : Shared} {Q : VK} {k k' : Bool} (I : Inv X pins σ H s) (q : Q (.bl k) H) (e : k = k') : EP X pins σ Q (.bool k') s := by
  subst e
  exact ⟨.bl k, H, I, rfl, q⟩
theorem op_eq : OpR X (compareOp .Eq) rEq := by
  intro pins s σ H x y v u Q I rx ry h
  obtain ⟨hs, q⟩ := h
  cases x with
  | non =>
    cases rx
    cases y with
    | non => cases ry; exact PySem.EqNone.eq_none_none (fin_bl I q (by simp))
    | bl j => cases ry; exact PySem.EqNone.eq_none_bool (fin_bl I q (by simp))
    | int j => obtain ⟨t', rfl⟩ := ry; exact PySem.EqNone.eq_none_int (fin_bl I q (by simp))
    | str j => obtain ⟨t', rfl⟩ := ry; exact PySem.EqNone.eq_none_str (fin_bl I q (by simp))
    | _ => exact absurd (show false = true from hs) Bool.false_ne_true
  | bl i =>
    cases rx
    cases y with
    | non => cases ry; exact PySem.EqNone.eq_bool_none (fin_bl I q (by simp))
    | bl j => cases ry; exact eq_bool (fin_bl I q dec_bl)
    | str j => obtain ⟨t', rfl⟩ := ry; exact PySem.EqMixed.eq_bool_str (fin_bl I q (by simp))
    | _ => exact absurd (show false = true from hs) Bool.false_ne_true
  | int i =>
    obtain ⟨t, rfl⟩ := rx
    cases y with
    | non => cases ry; exact PySem.EqNone.eq_int_none (fin_bl I q (by simp))
    | int j => obtain ⟨t', rfl⟩ := ry; exact eq_int (fin_bl I q dec_int)
    | str j => obtain ⟨t', rfl⟩ := ry; exact PySem.EqMixed.eq_int_str (fin_bl I q (by simp))
    | _ => exact absurd (show false = true from hs) Bool.false_ne_true
  | str i =>
    obtain ⟨t, rfl⟩ := rx
    cases y with
    | non => cases ry; exact PySem.EqNone.eq_str_none (fin_bl I q (by simp))
    | bl j => cases ry; exact PySem.EqMixed.eq_str_bool (fin_bl I q (by simp))
    | int j => obtain ⟨t', rfl⟩ := ry; exact PySem.EqMixed.eq_str_int (fin_bl I q (by simp))
    | str j => obtain ⟨t', rfl⟩ := ry; exact eq_str (fin_bl I q dec_str)
    | _ => exact absurd (show false = true from hs) Bool.false_ne_true
  | byt i =>
    obtain ⟨t, rfl⟩ := rx
    cases y with
    | byt j => obtain ⟨t', rfl⟩ := ry; exact PySem.W.eq_bytes (fin_bl I q dec_byt)
    | _ => exact absurd (show false = true from hs) Bool.false_ne_true
  | _ => cases y <;> exact absurd (show false = true from hs) Bool.false_ne_true
theorem op_ne : OpR X (compareOp .NotEq) rNe := by
  intro pins s σ H x y v u Q I rx ry h
  obtain ⟨hs, q⟩ := h
  cases x with
  | non =>
    cases rx
    cases y with
    | non => cases ry; exact PySem.EqNone.ne_none_none (fin_bl I q (by simp))
    | bl j => cases ry; exact PySem.EqNone.ne_none_bool (fin_bl I q (by simp))
    | int j => obtain ⟨t', rfl⟩ := ry; exact PySem.EqNone.ne_none_int (fin_bl I q (by simp))
    | str j => obtain ⟨t', rfl⟩ := ry; exact PySem.EqNone.ne_none_str (fin_bl I q (by simp))
    | _ => exact absurd (show false = true from hs) Bool.false_ne_true
  | bl i =>
    cases rx
    cases y with
    | non => cases ry; exact PySem.EqNone.ne_bool_none (fin_bl I q (by simp))
    | bl j => cases ry; exact ne_bool (fin_bl I q (congrArg not dec_bl))
    | str j => obtain ⟨t', rfl⟩ := ry; exact PySem.EqMixed.ne_bool_str (fin_bl I q (by simp))
    | _ => exact absurd (show false = true from hs) Bool.false_ne_true
  | int i =>
    obtain ⟨t, rfl⟩ := rx
    cases y with
    | non => cases ry; exact PySem.EqNone.ne_int_none (fin_bl I q (by simp))
    | int j => obtain ⟨t', rfl⟩ := ry; exact ne_int (fin_bl I q (congrArg not dec_int))
    | str j => obtain ⟨t', rfl⟩ := ry; exact PySem.EqMixed.ne_int_str (fin_bl I q (by simp))
    | _ => exact absurd (show false = true from hs) Bool.false_ne_true
  | str i =>
    obtain ⟨t, rfl⟩ := rx
    cases y with
    | non => cases ry; exact PySem.EqNone.ne_str_none (fin_bl I q (by simp))
    | bl j => cases ry; exact PySem.EqMixed.ne_str_bool (fin_bl I q (by simp))
    | int j => obtain ⟨t', rfl⟩ := ry; exact PySem.EqMixed.ne_str_int (fin_bl I q (by simp))
    | str j => obtain ⟨t', rfl⟩ := ry; exact ne_str (fin_bl I q (congrArg not dec_str))
    | _ => exact absurd (show false = true from hs) Bool.false_ne_true
  | byt i =>
    obtain ⟨t, rfl⟩ := rx
    cases y with
    | byt j => obtain ⟨t', rfl⟩ := ry; exact PySem.W.ne_bytes (fin_bl I q (congrArg not dec_byt))
    | _ => exact absurd (show false = true from hs) Bool.false_ne_true
  | _ => cases y <;> exact absurd (show false = true from hs) Bool.false_ne_true

theorem op_lt : OpR X (compareOp .Lt) (rI0 fun i j => .bl (decide (i < j))) := opB0 fun _ _ _ _ _ _ _ q => lt_int q
theorem op_le : OpR X (compareOp .LtE) (rI0 fun i j => .bl (decide (i ≤ j))) := opB0 fun _ _ _ _ _ _ _ q => le_int q
theorem op_gt : OpR X (compareOp .Gt) (rI0 fun i j => .bl (decide (j < i))) := opB0 fun _ _ _ _ _ _ _ q => gt_int q
theorem op_ge : OpR X (compareOp .GtE) (rI0 fun i j => .bl (decide (j ≤ i))) := opB0 fun _ _ _ _ _ _ _ q => ge_int q
theorem op_isN : OpR X (compareOp .Is) (fun x y H Q => y = .non ∧ Q (.bl (decide (x = .non))) H) := by
  intro pins s σ H x y v u Q I rx ry h
  obtain ⟨rfl, q⟩ := h
  cases ry
  refine is_none_gen (fin_bl I q ?_)
  cases x <;> first
    | (cases rx; rfl)
    | (obtain ⟨t, rfl⟩ := rx; rfl)
theorem op_notN : OpR X (compareOp .IsNot) (fun x y H Q => y = .non ∧ Q (.bl (!decide (x = .non))) H) := by
  intro pins s σ H x y v u Q I rx ry h
  obtain ⟨rfl, q⟩ := h
  cases ry
  refine isnot_none_gen (fin_bl I q ?_)
  cases x <;> first
    | (cases rx; rfl)
    | (obtain ⟨t, rfl⟩ := rx; rfl)

theorem nomark (b : Expr) {op : CmpOp} (h : op ≠ .In := by decide) (h2 : op ≠ .NotIn := by decide) : behindInMarks op b = false := by
  have e1 : (op == CmpOp.In) = false := by cases op <;> first | rfl | exact absurd rfl h
  have e2 : (op == CmpOp.NotIn) = false := by cases op <;> first | rfl | exact absurd rfl h2
  cases b <;> simp [behindInMarks, e1, e2]
theorem pe_cmpR {op : CmpOp} {r : R2} (ho : OpR X (compareOp op) r) (ha : PE X a ta) (hb : PE X b tb) (hm : behindInMarks op b = false) : PE X (.Compare a [op] [b] pos) (tOp r ta tb) := by
  intro pins s σ H Q I h
  exact wpAny_Compare1 (binT ha hb I h fun v u s2 x y H2 I2 rx ry q => ho pins s2 σ H2 x y v u Q I2 rx ry q) hm
def tTest (t : TE) : TT := fun σ H Q => t σ H fun x H' => ∃ k, x = .bl k ∧ Q k H'
theorem pt_cmpR {op : CmpOp} {r : R2} (ho : OpR X (compareOp op) r) (ha : PE X a ta) (hb : PE X b tb) (hm : behindInMarks op b = false) : PT X (.Compare a [op] [b] pos) (tTest (tOp r ta tb)) := by
  intro pins s σ H Q I h
  refine wpAny_isTrue_Compare1 (thn (ha pins s σ H _ I h) fun v s1 ⟨x, H1, I1, r1, q1⟩ => thn (hb pins s1 σ H1 _ I1 q1) fun u s2 ⟨y, H2, I2, r2, q2⟩ =>
    thn (ho pins s2 σ H2 x y v u _ I2 r1 r2 q2) fun c s3 ⟨z, H3, I3, r3, k, e, q3⟩ => ?_) hm
  subst e
  cases r3
  exact wpAny_truthy_bool ⟨H3, I3, q3⟩
def tChain (r r' : R2) (ta tb tc : TE) : TE := fun σ H Q => ta σ H fun x H1 => tb σ H1 fun y H2 => r x y H2 fun z H3 => ∃ k, z = .bl k ∧
  (if k = true then tc σ H3 fun w' H4 => r' y w' H4 Q else Q (.bl false) H3)
theorem pe_chain {op op' : CmpOp} {r r' : R2} (ho : OpR X (compareOp op) r) (ho' : OpR X (compareOp op') r') (ha : PE X a ta) (hb : PE X b tb) (hc : PE X c tc)
    (hm : lastMarks [op, op'] [b, c] = false := by with_unfolding_all rfl) : PE X (.Compare a [op, op'] [b, c] pos) (tChain r r' ta tb tc) := by
  intro pins s σ H Q I h
  refine Compare_chain (thn (ha pins s σ H _ I h) fun v s1 ⟨x, H1, I1, r1, q1⟩ => chain_link (thn (hb pins s1 σ H1 _ I1 q1) fun u s2 ⟨y, H2, I2, r2, q2⟩ =>
    thn (ho pins s2 σ H2 x y v u _ I2 r1 r2 q2) fun d s3 ⟨z, H3, I3, r3, k, e, q3⟩ => ?_)) hm
  subst e
  cases r3
  refine wpAny_truthy_bool ?_
  cases k with
  | false => exact ite_ff ⟨.bl false, H3, I3, rfl, q3⟩
  | true => exact ite_tt (chain_last (thn (hc pins s3 σ H3 _ I3 q3) fun w' s4 ⟨z', H4, I4, r4, q4⟩ => ho' pins s4 σ H4 y z' u w' Q I4 r2 r4 q4))
def TruV (K : PySem.W.Frag) (x : V) (H : Hp) (k : Bool) : Prop :=
  match x with
  | .non => k = false
  | .bl b => k = b
  | .int i => k = (i != 0)
  | .str y => y.length ≤ sizeLine ∧ k = ((y.length : Int) != 0)
  | .byt y => y.size ≤ sizeLine ∧ k = ((y.size : Int) != 0)
  | .ref p => (∃ xs, SqL K H p xs ∧ k = !xs.isEmpty) ∨ (∃ xs, SqT K H p xs ∧ k = !xs.isEmpty) ∨ ∃ kvs, H p = some (.dK kvs) ∧ k = !kvs.isEmpty
  | _ => False
theorem isEmpty_kv {κ : Type} {kvs : List (κ × V)} {vs : List (κ × Value)} (r : KV kvs vs) : (!vs.isEmpty) = !kvs.isEmpty := by
  cases r <;> rfl
theorem isEmpty_of {xs : List V} {its : List Value} (r : Vals xs its) : (!its.toArray.isEmpty) = !xs.isEmpty := by
  cases r <;> simp
theorem line63 : (sizeLine : Nat) < 2 ^ 63 := by rw [sizeLine_eq]; decide
theorem tru_ok : TruR X (fun x H Q => ∃ k, TruV X.K x H k ∧ Q k H) := by
  intro pins s σ H x v Q I rx h
  obtain ⟨k, e, q⟩ := h
  have hl := line63
  have hs : sizeLine = 16777216 := sizeLine_eq
  cases x with
  | non =>
    cases rx
    have e' : k = false := e
    subst e'
    exact truthy_none ⟨H, I, q⟩
  | bl b =>
    cases rx
    have e' : k = b := e
    subst e'
    exact wpAny_truthy_bool ⟨H, I, q⟩
  | int i =>
    obtain ⟨t, rfl⟩ := rx
    have e' : k = (i != 0) := e
    subst e'
    exact PySem.P.truthy_int ⟨H, I, q⟩
  | str y =>
    obtain ⟨t, rfl⟩ := rx
    obtain ⟨hy, e'⟩ : y.length ≤ sizeLine ∧ k = ((y.length : Int) != 0) := e
    subst e'
    exact PySem.P.truthy_str (by omega) ⟨H, I.tok _, q⟩
  | byt y =>
    obtain ⟨t, rfl⟩ := rx
    obtain ⟨hy, e'⟩ : y.size ≤ sizeLine ∧ k = ((y.size : Int) != 0) := e
    subst e'
    exact PySem.W.truthy_bytes (by omega) ⟨H, I.tok _, q⟩
  | ref p =>
    cases rx
    have e' : (∃ xs, SqL X.K H p xs ∧ k = !xs.isEmpty) ∨ (∃ xs, SqT X.K H p xs ∧ k = !xs.isEmpty) ∨ ∃ kvs, H p = some (.dK kvs) ∧ k = !kvs.isEmpty := e
    rcases e' with ⟨xs, hx, e'⟩ | ⟨xs, hx, e'⟩ | ⟨kvs, hx, e'⟩
    · subst e'
      obtain ⟨its, r, pl, hz⟩ := I.list hx
      have hlen := r.length
      exact wpAny_truthy_list pl.isList (by simp only [List.size_toArray]; omega) ⟨H, I.tok _, by rw [isEmpty_of r]; exact q⟩
    · subst e'
      obtain ⟨its, r, pl, hz⟩ := I.tuple hx
      have hlen := r.length
      exact truthy_tuple pl (by simp only [List.size_toArray]; omega) ⟨H, I.tok _, by rw [isEmpty_of r]; exact q⟩
    · subst e'
      obtain ⟨hz, hS, vs, r, m⟩ : kvs.length ≤ sizeLine ∧ (p == sysModules) = false ∧ ∃ vs, KV kvs vs ∧ s.heap.DictOf (mixKind X.prog X.w) p vs := I.hok p _ hx
      have hlen : kvs.length = vs.length := Paired.length r
      exact wpAny_truthy_dict hS m (by omega) ⟨H, I.tok _, by rw [isEmpty_kv r]; exact q⟩
  | _ => exact (show False from e).elim
theorem pt_truth (ha : PE X a ta) (he : ∀ whole, isTrue a X.env whole = (do let v ← whole; standAt a.pos; holding [v] (truthy v))) :
    PT X a (fun σ H Q => ta σ H fun x H' => ∃ k, TruV X.K x H' k ∧ Q k H') := by
  intro pins s σ H Q I h
  exact isTrue_plain (thn (ha pins s σ H _ I h) fun v s1 ⟨x, H1, I1, r1, q1⟩ => tru_ok pins s1 σ H1 x v Q I1 r1 q1) (he _)
theorem vals1 {x : V} {us : List Value} (r : Vals [x] us) : ∃ u, us = [u] ∧ RelV x u := by
  cases r with
  | cons r1 r2 => cases r2; exact ⟨_, rfl, r1⟩
theorem vals2 {x y : V} {us : List Value} (r : Vals [x, y] us) : ∃ u w', us = [u, w'] ∧ RelV x u ∧ RelV y w' := by
  cases r with
  | cons r1 r2 =>
    cases r2 with
    | cons r3 r4 => cases r4; exact ⟨_, _, rfl, r1, r3⟩
theorem call_abs : CallR X (.builtin "abs") (fun xs H Q => ∃ i, xs = [.int i] ∧ Q (.int (if i < 0 then -i else i)) H) := by
  intro pins s σ H xs us Q I r h
  obtain ⟨i, rfl, q⟩ := h
  obtain ⟨u, rfl, t, rfl⟩ := vals1 r
  exact call_abs_int fun u tk => ⟨.int (if i < 0 then -i else i), H, I.tok _, ⟨_, rfl⟩, q⟩
theorem call_max2 (hc : X.calm = true) : CallR X (.builtin "max") (fun xs H Q => ∃ i j, xs = [.int i, .int j] ∧ Q (.int (if j > i then j else i)) H) := by
  intro pins s σ H xs us Q I r h
  obtain ⟨i, j, rfl, q⟩ := h
  obtain ⟨u, w', rfl, ⟨t, rfl⟩, ⟨t', rfl⟩⟩ := vals2 r
  refine max_two_ints (I.ok.hd hc) fun h' tk k => ⟨_, H, I.kept k, ?_, q⟩
  by_cases hj : j > i
  · rw [if_pos hj, if_pos hj]; exact ⟨_, rfl⟩
  · rw [if_neg hj, if_neg hj]; exact ⟨_, rfl⟩
theorem call_min2 (hc : X.calm = true) : CallR X (.builtin "min") (fun xs H Q => ∃ i j, xs = [.int i, .int j] ∧ Q (.int (if j < i then j else i)) H) := by
  intro pins s σ H xs us Q I r h
  obtain ⟨i, j, rfl, q⟩ := h
  obtain ⟨u, w', rfl, ⟨t, rfl⟩, ⟨t', rfl⟩⟩ := vals2 r
  refine min_two_ints (I.ok.hd hc) fun h' tk k => ⟨_, H, I.kept k, ?_, q⟩
  by_cases hj : j < i
  · rw [if_pos hj, if_pos hj]; exact ⟨_, rfl⟩
  · rw [if_neg hj, if_neg hj]; exact ⟨_, rfl⟩
theorem call_int1 : CallR X (.type "int") (fun xs H Q => (∃ i, xs = [.int i] ∧ Q (.int i) H) ∨ ∃ k, xs = [.bl k] ∧ Q (.int (if k then 1 else 0)) H) := by
  intro pins s σ H xs us Q I r h
  rcases h with ⟨i, rfl, q⟩ | ⟨k, rfl, q⟩
  · obtain ⟨u, rfl, t, rfl⟩ := vals1 r
    exact call_int_int ⟨.int i, H, I, ⟨_, rfl⟩, q⟩
  · obtain ⟨u, rfl, r1⟩ := vals1 r
    cases r1
    exact call_int_bool ⟨.int (if k then 1 else 0), H, I.tok _, ⟨_, rfl⟩, q⟩
end
end L2

namespace L2
open PySem PySem.Spec PyProof.Rows
structure ObjM (h : Heap) (x dx C : Addr) (mA : Str → Option Value) : Prop where
  obj : h.get? x = some (PySem.W.instObj C dx)
  ns : h.Ns1 dx mA
  ne : dx ≠ x

theorem lookIn_ns {h : Heap} {dx : Addr} {mA : Str → Option Value} (n : h.Ns1 dx mA) : ∃ od, h.get? dx = some od ∧ ∀ name, PySem.W.lookIn name od = some (mA name) := by
  obtain ⟨o, es, ep, ho, hd, hk, _, hm⟩ := n
  refine ⟨o, ho, fun name => ?_⟩
  have e := hm name
  unfold nsFind findBy at e
  rw [← Array.find?_toList] at e
  unfold PySem.W.lookIn
  rw [hd]
  dsimp only
  split
  · rename_i y q
    rw [q] at e
    exact congrArg some e
  · rename_i q
    rw [q] at e
    have a : es.toList.any (·.refKey) = false := by
      rw [List.any_eq_false]
      intro y hy
      obtain ⟨z, t, hkey⟩ := hk y (Array.mem_toList_iff.mp hy)
      simp [DictEntry.refKey, hkey]
    have a' : ¬ es.toList.any (·.refKey) = true := by rw [a]; exact Bool.false_ne_true
    rw [if_neg a']
    exact congrArg some e

theorem ObjM.look {h : Heap} {x dx C : Addr} {mA : Str → Option Value} (I : ObjM h x dx C mA) : ∃ od, PySem.W.InstAt h x (PySem.W.instObj C dx) C (some od) ∧ ∀ name, PySem.W.lookIn name od = some (mA name) :=
  let ⟨od, ho, hl⟩ := lookIn_ns I.ns
  ⟨od, ⟨I.obj, rfl, rfl, ho⟩, hl⟩

section
variable {prog : Program} {w : World} {A : Around} {E : Value → Shared → Prop} {s : Shared} {K : PySem.W.Frag} {x dx C f : Addr} {mA : Str → Option Value} {name : Str} {v : Value}

theorem get_map {expr : Bool} {Q : Value → Shared → Prop} (X : K.In s.heap) (I : ObjM s.heap x dx C mA) (hg : PySem.W.plainGet K C name = true) (hh : PySem.W.hasDictIn K C = true)
    (ha : PySem.W.findIn K (.ref C) name = some none) (hv : mA name = some v) (hv' : PySem.W.handedIn v = true) (h : Q v { s with toks := s.toks + 1 }) :
    wpAny (model prog w) A (getAttr (.ref x) name expr) Q E s := by
  obtain ⟨od, J, hl⟩ := I.look
  exact PySem.W.get_value X J (PySem.W.plainGet_of hg).1 (PySem.W.findObj_own hh ha rfl (by rw [hl, hv])) hv' h

theorem get_meth {pl : Sem Bool} {Q : Value × List Value → Shared → Prop} (X : K.In s.heap) (I : ObjM s.heap x dx C mA) (hg : PySem.W.plainGet K C name = true)
    (hf : PySem.W.findIn K (.ref C) name = some (some (.ref f))) (ht : PySem.W.isFn K (.ref f) = true) (hv : mA name = none) (h : Q (.ref f, [.ref x]) s) :
    wpAny (model prog w) A (getMethod (.ref x) name pl) Q E s := by
  obtain ⟨od, J, hl⟩ := I.look
  exact PySem.W.method_fn X J (PySem.W.plainGet_of hg).1 (PySem.W.plainGet_of hg).2 hf (beq_iff_eq.mp ht) (by show (PySem.W.lookIn name od).map (·.isSome) = some false; rw [hl, hv]; rfl) h

theorem set_map {ns : List Str} {Q : Unit → Shared → Prop} (X : K.In s.heap) (I : ObjM s.heap x dx C mA)
    (hs : PySem.W.findIn K (.ref C) "__setattr__" = some (some (.builtin "object.__setattr__"))) (hp : PySem.W.plainOver K C = true) (ht : PySem.W.takerIn K C name = some none) (hh : PySem.W.hasDictIn K C = true)
    (hw : PySem.Within mA ns) (hsz : ns.length ≤ sizeLine)
    (h : ∀ h', ObjM h' x dx C (fun y => if y = name then some v else mA y) → Heap.SameBut dx s.heap h' → Q () { s with heap := h', toks := s.toks + 2 }) :
    wpAny (model prog w) A (setAttr (.ref x) name v) Q E s := by
  obtain ⟨od, J, hl⟩ := I.look
  refine PySem.W.set_plain X J hs (PySem.W.osa_open (s := { s with toks := s.toks + 1 }) (r := none) X J hp ht fun b => ?_)
  obtain ⟨cd, hc, hd'⟩ := PySem.W.any_some hh
  have hx : s.heap.get? x = some ⟨.ref C, some dx, .plain, #[]⟩ := I.obj
  refine wpAny_bind (wpAny_pure (wpAny_bind (wpAny_bind (wpAny_loadPart hx (wpAny_bind (PySem.W.Looks.here (s := { s with toks := s.toks + 1 }) (PySem.W.looks_clsIn X hc) ?_))))))
  rw [hd']
  refine wpAny_pure (a := some dx) (wpAny_bind (wpAny_pure (wpAny_bind ?_)))
  refine wpAny_nsSet1 (s := { s with toks := s.toks + 1 }) I.ns fun h' hn2 hs2 => ?_
  obtain ⟨oD, esD, epD, hoD, hdD, hcD⟩ := hn2.count (PySem.Within.cons name v hw)
  refine wpAny_bind (wpAny_lookBehind hoD (by rw [hdD]; exact pastItsLine_dict (Nat.le_trans hcD (by rw [List.length_cons]; omega))) ?_)
  exact wpAny_pure (h _ ⟨(hs2.2 _ (Ne.symm I.ne)).trans I.obj, hn2, I.ne⟩ hs2)
theorem make_map {R : Result → Shared → Prop} {vs : List Value} {kw : List (Str × Value)} (X : K.In s.heap) (hm : PySem.W.makesIn K C = true)
    (hi : PySem.W.findIn K (.ref C) "__init__" = some (some (.ref f))) (hf : PySem.W.typeIn K (.ref f) = some (.type "function"))
    (h : codeAny (model prog w) (A.under (.builtin "type.__call__" ⟨.ref C :: vs, kw⟩)) (.call (.ref f) ⟨.ref (s.heap.objs.size + 1) :: vs, kw⟩) (PySem.W.InitBack (s.heap.objs.size + 1) R)
      { s with heap := (s.heap.push PySem.W.emptyDict).push (PySem.W.instObj C s.heap.objs.size) }) :
    codeAny (model prog w) A (.call (.ref C) ⟨vs, kw⟩) R s := by
  obtain ⟨hh, g, d, t, os⟩ := s
  exact PySem.W.make_core (PySem.W.makes_of X hm) (PySem.W.looks_findIn X hi) (fun self => PySem.W.bind_fn X self hf) (.inl rfl) h
end
def putF (f : Str) (v : V) : List (Str × V) → List (Str × V)
  | [] => [(f, v)]
  | (g, x) :: r => if g = f then (g, v) :: r else (g, x) :: putF f v r
theorem lookup_putF (f g : Str) (v : V) : ∀ fs : List (Str × V), (putF f v fs).lookup g = if g = f then some v else fs.lookup g
  | [] => by
    show List.lookup g [(f, v)] = _
    by_cases h : g = f
    · have hb : (g == f) = true := beq_iff_eq.mpr h
      simp only [List.lookup, hb, if_pos h]
    · have hb : (g == f) = false := beq_eq_false_iff_ne.mpr h
      simp only [List.lookup, hb, if_neg h]
  | (k, x) :: r => by
    have ih := lookup_putF f g v r
    rw [show putF f v ((k, x) :: r) = (if k = f then (k, v) :: r else (k, x) :: putF f v r) from rfl]
    by_cases hk : k = f
    · rw [if_pos hk]
      by_cases h : g = k
      · have hb : (g == k) = true := beq_iff_eq.mpr h
        simp only [List.lookup, hb, if_pos (h.trans hk)]
      · have hb : (g == k) = false := beq_eq_false_iff_ne.mpr h
        simp only [List.lookup, hb, if_neg (fun e : g = f => h (e.trans hk.symm))]
    · rw [if_neg hk]
      by_cases h : g = k
      · have hb : (g == k) = true := beq_iff_eq.mpr h
        simp only [List.lookup, hb, if_neg (fun e : g = f => hk (h.symm.trans e))]
      · have hb : (g == k) = false := beq_eq_false_iff_ne.mpr h
        simp only [List.lookup, hb]
        exact ih
theorem keys_putF (f : Str) (v : V) : ∀ fs : List (Str × V), f ∈ (putF f v fs).map (·.1) ∧ ∀ g, g ∈ fs.map (·.1) → g ∈ (putF f v fs).map (·.1)
  | [] => ⟨by simp [putF], fun g h => by simp at h⟩
  | (k, x) :: r => by
    obtain ⟨i1, i2⟩ := keys_putF f v r
    rw [show putF f v ((k, x) :: r) = (if k = f then (k, v) :: r else (k, x) :: putF f v r) from rfl]
    by_cases hk : k = f
    · rw [if_pos hk]
      subst hk
      exact ⟨by simp, fun g h => by simpa using h⟩
    · rw [if_neg hk]
      refine ⟨?_, fun g h => ?_⟩
      · rw [List.map_cons]
        exact List.mem_cons_of_mem _ i1
      · rw [List.map_cons] at h ⊢
        rcases List.mem_cons.mp h with e | e
        · exact List.mem_cons.mpr (.inl e)
        · exact List.mem_cons_of_mem _ (i2 g e)
theorem length_putF (f : Str) (v : V) : ∀ fs : List (Str × V), (putF f v fs).length ≤ fs.length + 1
  | [] => by simp [putF]
  | (k, x) :: r => by
    have ih := length_putF f v r
    rw [show putF f v ((k, x) :: r) = (if k = f then (k, v) :: r else (k, x) :: putF f v r) from rfl]
    by_cases hk : k = f
    · rw [if_pos hk, List.length_cons, List.length_cons]; omega
    · rw [if_neg hk, List.length_cons, List.length_cons]; omega

theorem RelO.some_of {v : V} {o : Option Value} (r : RelO (some v) o) : ∃ u, o = some u ∧ RelV v u := by
  cases o with
  | none => exact (show False from r).elim
  | some u => exact ⟨u, rfl, r⟩
theorem RelO.none_of {o : Option Value} (r : RelO none o) : o = none := by
  cases o with
  | none => rfl
  | some u => exact (show False from r).elim
theorem handed_of {v : V} {u : Value} (r : RelV v u) : PySem.W.handedIn u = true := by
  cases v with
  | non => cases (show u = Value.none from r); rfl
  | bl b => cases (show u = Value.bool b from r); rfl
  | int i => obtain ⟨t, e⟩ := (show ∃ t, u = Value.int i t from r); cases e; rfl
  | str x => obtain ⟨t, e⟩ := (show ∃ t, u = Value.str x t from r); cases e; rfl
  | byt b => obtain ⟨t, e⟩ := (show ∃ t, u = Value.bytes b t from r); cases e; rfl
  | flt b => obtain ⟨t, e⟩ := (show ∃ t, u = Value.float b t from r); cases e; rfl
  | ref a => cases (show u = Value.ref a from r); rfl
  | ty n => cases (show u = Value.type n from r); rfl

section
variable {P : Program} {w : World} {H H' : Hp} {h h' : Heap} {a C dx : Addr} {fs fs' : List (Str × V)}
theorem ins_get (hok : HOk P w H h) (e : H a = some (.ins C dx fs)) : ∃ mA, ObjM h a dx C mA ∧ (∀ f, RelO (fs.lookup f) (mA f)) ∧ PySem.Within mA (fs.map (·.1)) ∧ fs.length ≤ 1000 ∧ H dx = some (.own a) := by
  obtain ⟨d, z, ne, ob, mA, n, r, q⟩ := (show ObjOk P w H h a (.ins C dx fs) from hok a _ e)
  exact ⟨mA, ⟨ob, n, ne⟩, r, q, z, d⟩
end
structure Cls (K : PySem.W.Frag) (C : Addr) : Prop where
  pg : PySem.W.plainGet K C Str.empty = true
  hd : PySem.W.hasDictIn K C = true
  po : PySem.W.plainOver K C = true
  sa : PySem.W.findIn K (.ref C) "__setattr__" = some (some (.builtin "object.__setattr__"))
theorem Cls.get {K : PySem.W.Frag} {C : Addr} (c : Cls K C) (f : Str) : PySem.W.plainGet K C f = true := c.pg
def NoAttr (K : PySem.W.Frag) (C : Addr) (f : Str) : Prop := PySem.W.findIn K (.ref C) f = some none
theorem NoAttr.taker {K : PySem.W.Frag} {C : Addr} {f : Str} (n : NoAttr K C f) : PySem.W.takerIn K C f = some none := by
  unfold PySem.W.takerIn
  rw [show PySem.W.findIn K (.ref C) f = some none from n]
  rfl
structure Meth (K : PySem.W.Frag) (C : Addr) (m : Str) (f : Addr) : Prop where
  at_ : PySem.W.findIn K (.ref C) m = some (some (.ref f))
  fn : PySem.W.isFn K (.ref f) = true
  kp : PySem.W.keepIn K (.ref f) = true

section
variable {X : Cx} {pins : List (Addr × Obj)} {σ : St} {H : Hp} {s : Shared} {a C dx : Addr} {fs : List (Str × V)} {f : Str} {v : V} {A : Around} {E : Value → Shared → Prop}

theorem getattr_ok {b : Bool} {Q : Value → Shared → Prop} (I : Inv X pins σ H s) (e : H a = some (.ins C dx fs)) (c : Cls X.K C) (n : NoAttr X.K C f) (l : fs.lookup f = some v)
    (h : ∀ u s', Inv X pins σ H s' → RelV v u → Q u s') : wpAny (model X.prog X.w) A (getAttr (.ref a) f b) Q E s := by
  obtain ⟨mA, O, r, _, _, _⟩ := ins_get I.hok e
  obtain ⟨u, hu, ru⟩ := RelO.some_of (v := v) (o := mA f) (by rw [← l]; exact r f)
  exact get_map I.kIn O (c.get f) c.hd n hu (handed_of ru) (h u _ (I.tok _) ru)

theorem getmeth_ok {m : Str} {g : Addr} {pl : Sem Bool} {Q : Value × List Value → Shared → Prop} (I : Inv X pins σ H s) (e : H a = some (.ins C dx fs)) (c : Cls X.K C) (k : Meth X.K C m g) (l : fs.lookup m = none)
    (h : Q (.ref g, [.ref a]) s) : wpAny (model X.prog X.w) A (getMethod (.ref a) m pl) Q E s := by
  obtain ⟨mA, O, r, _, _, _⟩ := ins_get I.hok e
  have hn : mA m = none := RelO.none_of (by rw [← l]; exact r m)
  exact get_meth I.kIn O (c.get m) k.at_ k.fn hn h

theorem setattr_ok {y : V} {u : Value} {Q : Unit → Shared → Prop} (I : Inv X pins σ H s) (e : H a = some (.ins C dx fs)) (c : Cls X.K C) (n : NoAttr X.K C f) (hl : fs.length < 1000) (ry : RelV y u)
    (h : ∀ s', Inv X pins σ (upd H a (.ins C dx (putF f y fs))) s' → Q () s') : wpAny (model X.prog X.w) A (setAttr (.ref a) f u) Q E s := by
  obtain ⟨mA, O, r, wi, _, ho⟩ := ins_get I.hok e
  have hz : (fs.map (·.1)).length ≤ sizeLine := by rw [List.length_map, sizeLine_eq]; omega
  refine set_map I.kIn O c.sa c.po n.taker c.hd wi hz fun h' O' sb => h _ ?_
  have hd : ∃ o, h'.get? dx = some o := let ⟨o, _, _, e', _⟩ := O'.ns; ⟨o, e'⟩
  refine I.write (x := a) (e := dx) (by rw [e]; exact True.intro) (.inr ho) (fun b q hb z => (sb.2 b hb).trans z) hd ?_
  refine ⟨by rw [upd_ne O.ne]; exact ho, ?_, O.ne, O'.obj, _, O'.ns, fun g => ?_, fun g hg => ?_⟩
  · have := length_putF f y fs; omega
  · show RelO ((putF f y fs).lookup g) (if g = f then some u else mA g)
    rw [lookup_putF]
    by_cases q : g = f
    · rw [if_pos q, if_pos q]; exact ry
    · rw [if_neg q, if_neg q]; exact r g
  · by_cases q : g = f
    · rw [q]; exact (keys_putF f y fs).1
    · refine (keys_putF f y fs).2 g (wi g fun z => hg ?_)
      show (if g = f then some u else mA g) = none
      rw [if_neg q]; exact z
theorem Inv.made (I : Inv X pins σ H s) : Inv X pins σ (upd (upd H s.heap.objs.size (.own (s.heap.objs.size + 1))) (s.heap.objs.size + 1) (.ins C s.heap.objs.size []))
    { s with heap := (s.heap.push PySem.W.emptyDict).push (PySem.W.instObj C s.heap.objs.size) } := by
  have e1 : (s.heap.push PySem.W.emptyDict).get? s.heap.objs.size = some PySem.W.emptyDict := Heap.get?_push_size s.heap rfl
  have e2 : ((s.heap.push PySem.W.emptyDict).push (PySem.W.instObj C s.heap.objs.size)).get? (s.heap.objs.size + 1) = some (PySem.W.instObj C s.heap.objs.size) := by
    have := Heap.get?_push_size (s.heap.push PySem.W.emptyDict) (o := PySem.W.instObj C s.heap.objs.size) rfl
    rwa [Heap.size_push] at this
  have e3 : (s.heap.push PySem.W.emptyDict).Ns s.heap.objs.size (fun _ => none) := ⟨PySem.W.emptyDict, #[], _, e1, rfl, (fun e he => absurd he (by simp)), fun _ => rfl⟩
  have I1 := I.laid (a := s.heap.objs.size) (o := .own (s.heap.objs.size + 1)) (h' := s.heap.push PySem.W.emptyDict) (t' := s.toks) (fun b u q => Heap.get?_push_of_some _ q) (Nat.le_refl _) ⟨_, e1⟩
  refine I1.laid (a := s.heap.objs.size + 1) (o := .ins C s.heap.objs.size []) (t' := s.toks) (fun b u q => Heap.get?_push_of_some _ q) (Nat.le_of_eq (Heap.size_push _ _)) ?_
  have ne : s.heap.objs.size ≠ s.heap.objs.size + 1 := Nat.ne_of_lt (Nat.lt_succ_self _)
  refine ⟨by rw [upd_ne ne, upd_same], Nat.zero_le _, ne, e2, fun _ => none, (Heap.Ns1.of_empty e3).at fun o q => Heap.get?_push_of_some _ q, fun _ => True.intro, fun y hy => absurd rfl hy⟩
theorem attr_of {prog : Program} {w : World} {env : Env} {e : Expr} {f : Str} {pos : Pos} {s : Shared} {Q : Value → Shared → Prop} (hb : attributeBase e f env (eval e env) = eval e env)
    (h : wpAny (model prog w) A (eval e env) (fun o s₁ => wpAny (model prog w) A (getAttr o f true) Q E s₁) E s) : wpAny (model prog w) A (eval (.Attribute e f pos) env) Q E s :=
  Attribute_any_ h (by rw [arm_eval_Attribute, hb])
end
def tFld (K : PySem.W.Frag) (ta : TE) (f : Str) : TE := fun σ H Q => ta σ H fun x H1 => ∃ a C dx fs v, x = .ref a ∧ H1 a = some (.ins C dx fs) ∧ Cls K C ∧ NoAttr K C f ∧ fs.lookup f = some v ∧ Q v H1
def sFld (K : PySem.W.Frag) (ta tv : TE) (f : Str) : TS := fun D σ H => tv σ H fun y H1 => ta σ H1 fun x H2 => ∃ a C dx fs, x = .ref a ∧ H2 a = some (.ins C dx fs) ∧ Cls K C ∧ NoAttr K C f ∧ fs.length < 1000 ∧
  D.nx σ (upd H2 a (.ins C dx (putF f y fs)))
section
variable {X : Cx} {o e value : Expr} {f : Str} {pos pos' tpos : Pos} {ta tv : TE}
theorem pe_fld (he : PE X e ta) (hb : attributeBase e f X.env (eval e X.env) = eval e X.env) : PE X (.Attribute e f pos) (tFld X.K ta f) := by
  intro pins s σ H Q I h
  refine attr_of hb (thn (he pins s σ H _ I h) fun u s1 ⟨x, H1, I1, rx, a, C, dx, fs, v, ex, ea, c, n, l, q⟩ => ?_)
  subst ex
  obtain rfl : u = Value.ref a := rx
  exact getattr_ok I1 ea c n l fun u' s2 I2 ru => ⟨v, H1, I2, ru, q⟩
theorem ps_fld (ha : PE X o ta) (hv : PE X value tv) (hs : swapsWith value (some (.Attribute o f pos')) pos.line X.env = pure false) : PS X (.Assign [.Attribute o f pos'] value pos) (sFld X.K ta tv f) := by
  intro pins s σ H D I h
  refine plainObj_wpAny_Assign_Attribute (thn (hv pins s σ H _ I h) fun u s1 ⟨y, H1, I1, ry, q⟩ => thn (ha pins s1 σ H1 _ I1 q) fun ov s2 ⟨x, H2, I2, rx, a, C, dx, fs, ex, ea, c, n, l, q2⟩ => ?_) hs
  subst ex
  obtain rfl : ov = Value.ref a := rx
  exact setattr_ok I2 ea c n l ry fun s3 I3 => ⟨σ, _, I3, q2⟩
end
section
variable {X : Cx} {pins : List (Addr × Obj)} {σ : St} {H : Hp} {s : Shared} {A : Around} {E : Value → Shared → Prop} {Q : Value → Shared → Prop} {c : Value} {b : Bool}
inductive TyOf (K : PySem.W.Frag) (H : Hp) : V → Value → Prop where
  | non : TyOf K H .non (.type "NoneType")
  | bl (x : Bool) : TyOf K H (.bl x) (.type "bool")
  | int (i : Int) : TyOf K H (.int i) (.type "int")
  | str (x : Str) : TyOf K H (.str x) (.type "str")
  | flt (x : UInt64) : TyOf K H (.flt x) (.type "float")
  | lst {a : Addr} {xs : List V} (e : H a = some (.lst xs)) : TyOf K H (.ref a) (.type "list")
  | frz {a : Addr} {o : Obj} {xs : List V} (e : H a = some (.frz o (.lst xs))) : TyOf K H (.ref a) (.type "list")
  | tup {a : Addr} {xs : List V} (e : H a = some (.tup xs)) : TyOf K H (.ref a) (.type "tuple")
  | dK {a : Addr} {kvs : List (Key × V)} (e : H a = some (.dK kvs)) : TyOf K H (.ref a) (.type "dict")
  | dT {a : Addr} {kvs : List (List Key × V)} (e : H a = some (.dT kvs)) : TyOf K H (.ref a) (.type "dict")
  | ins {a C dx : Addr} {fs : List (Str × V)} (e : H a = some (.ins C dx fs)) (cl : Cls K C) (ha : PySem.W.findIn K (.ref C) "__class__" = some (some (.builtin "object.__class__")))
      (hn : PySem.W.specialIn K (.builtin "object.__class__") "__get__" = some (some (.builtin "getset_descriptor.__get__"))) (htk : PySem.W.takesIn K (.builtin "object.__class__") = some true)
      (hm : PySem.W.mroIn K C (.type "object") = some true) : TyOf K H (.ref a) (.ref C)
theorem isinst_ok {x : V} {u t : Value} (I : Inv X pins σ H s) (rx : RelV x u) (ty : TyOf X.K H x t) (e : PySem.W.kitOne X.K t c = some b) (h : ∀ tk, Q (.bool b) { s with toks := tk }) :
    wpAny (model X.prog X.w) A (call (.builtin "isinstance") [u, c]) Q E s := by
  cases ty with
  | non => cases (show u = Value.none from rx); exact PySem.W.kia_one PySem.W.kitx_none I.kIn True.intro e (fun z => nomatch z) h
  | bl y => cases (show u = Value.bool y from rx); exact PySem.W.kia_one PySem.W.kitx_bool I.kIn True.intro e (fun z => nomatch z) h
  | int i => obtain ⟨t, q⟩ := (show ∃ t, u = Value.int i t from rx); cases q; exact PySem.W.kia_one PySem.W.kitx_int I.kIn True.intro e (fun z => nomatch z) h
  | str y => obtain ⟨t, q⟩ := (show ∃ t, u = Value.str y t from rx); cases q; exact PySem.W.kia_one PySem.W.kitx_str I.kIn True.intro e (fun z => nomatch z) h
  | flt y => obtain ⟨t, q⟩ := (show ∃ t, u = Value.float y t from rx); cases q; exact PySem.W.kia_one PySem.W.kitx_float I.kIn True.intro e (fun z => nomatch z) h
  | @lst a xs ea =>
    cases (show u = Value.ref a from rx)
    obtain ⟨_, _, n, _, h1⟩ := (show ObjOk X.prog X.w H s.heap a (.lst xs) from I.hok a _ ea)
    exact PySem.W.kia_one PySem.W.kitx_list I.kIn ⟨_, h1, rfl⟩ e (fun z => nomatch z) h
  | @frz a ob xs ea =>
    cases (show u = Value.ref a from rx)
    obtain ⟨_, _, _, n, _, h1⟩ := (show ObjOk X.prog X.w H s.heap a (.frz ob (.lst xs)) from I.hok a _ ea)
    exact PySem.W.kia_one PySem.W.kitx_list I.kIn ⟨_, h1, rfl⟩ e (fun z => nomatch z) h
  | @tup a xs ea =>
    cases (show u = Value.ref a from rx)
    obtain ⟨_, _, _, p'⟩ := (show ObjOk X.prog X.w H s.heap a (.tup xs) from I.hok a _ ea)
    have p := p'.tup
    obtain ⟨o, h1, h2, _⟩ := p
    exact PySem.W.kia_one PySem.W.kitx_tuple I.kIn ⟨o, h1, h2⟩ e (fun z => nomatch z) h
  | @dK a kvs ea =>
    cases (show u = Value.ref a from rx)
    obtain ⟨_, _, vs, _, p⟩ := (show ObjOk X.prog X.w H s.heap a (.dK kvs) from I.hok a _ ea)
    obtain ⟨o, es, ep, h1, h2, _⟩ := p
    exact PySem.W.kia_one PySem.W.kitx_dict I.kIn ⟨o, h1, h2.1⟩ e (fun z => nomatch z) h
  | @dT a kvs ea =>
    cases (show u = Value.ref a from rx)
    obtain ⟨_, _, xs, _, o, es, ep, h1, h2, _⟩ := (show ObjOk X.prog X.w H s.heap a (.dT kvs) from I.hok a _ ea)
    exact PySem.W.kia_one PySem.W.kitx_dict I.kIn ⟨o, h1, h2.1⟩ e (fun z => nomatch z) h
  | @ins a C dx fs ea cl ha hn htk hm =>
    cases (show u = Value.ref a from rx)
    obtain ⟨mA, O, _⟩ := ins_get I.hok ea
    obtain ⟨od, J, _⟩ := O.look
    exact PySem.W.kia_one (PySem.W.kitx_own (cl.get _) cl.hd ha hn htk hm) I.kIn J e (fun z => nomatch z) h
end
end L2

namespace L2
open PySem PySem.Spec PyProof.Rows
structure Room (k : Nat) (A : Around) : Prop where
  hd : A.handled = none
  dp : A.depth + 3 * k + 5 < recursionLimit
  un : A.units + 16 * k + 200 < cLine
  gd : A.guards = some []
theorem Room.mono {j k : Nat} {A : Around} (r : Room k A) (h : j ≤ k) : Room j A := ⟨r.hd, by have := r.dp; omega, by have := r.un; omega, r.gd⟩
theorem Room.deeper {k : Nat} {A : Around} (r : Room (k + 1) A) (env : Env) : Room k (A.deeper env) :=
  ⟨r.hd, by have := r.dp; show A.depth + 1 + 3 * k + 5 < _; omega, by have := r.un; show A.units + 3 + 16 * k + 200 < _; omega, r.gd⟩
theorem make_depth {A : Around} {C : Addr} {us : List Value} {kw : List (Str × Value)} : (A.under (.builtin "type.__call__" ⟨.ref C :: us, kw⟩)).depth = A.depth + 1 := by
  first | rfl | simp [Around.under, Code.weight, Code.isCreation, Code.isGuard, Code.isCaller, Code.frames, Code.isFrame, guardIds]
theorem make_units {A : Around} {C : Addr} {us : List Value} {kw : List (Str × Value)} : (A.under (.builtin "type.__call__" ⟨.ref C :: us, kw⟩)).units = A.units + 1 := by
  first | rfl | simp [Around.under, Code.cUnits, Code.frames, Code.isFrame]
theorem Room.make {k : Nat} {A : Around} (r : Room (k + 1) A) (C : Addr) (us : List Value) (kw : List (Str × Value)) : Room k (A.under (.builtin "type.__call__" ⟨.ref C :: us, kw⟩)) :=
  ⟨r.hd, by have := r.dp; rw [make_depth]; omega, by have := r.un; rw [make_units]; omega, (show _ from by first | exact r.gd | (simpa [Around.under, Code.isGuard, Code.guardAt, guardIds] using r.gd))⟩
theorem Room.depth {k : Nat} {A : Around} (r : Room k A) : A.depth < recursionLimit := by have := r.dp; omega
theorem Room.units {k : Nat} {A : Around} (r : Room k A) : A.units + 64 < cLine := by have := r.un; omega
theorem Room.units0 {k : Nat} {A : Around} (r : Room k A) : A.units < cLine := by have := r.un; omega
def tNil : TA := fun _ H Q => Q [] H
def tCons (ta : TE) (tr : TA) : TA := fun σ H Q => ta σ H fun x H1 => tr σ H1 fun xs H2 => Q (x :: xs) H2
section
variable {X : Cx} {e : Expr} {es : List Expr} {te : TE} {t : TA} {pos : Pos}
theorem pa_nil : PA X [] tNil := fun _ _ _ _ H Q I h => Calls.spliced_nil ⟨[], H, I, .nil, h⟩
theorem pa_cons (ha : PE X e te) (hr : PA X es t) (hs : starEach (e :: es) X.env = (false, eval e X.env) :: starEach es X.env := by rfl) : PA X (e :: es) (tCons te t) := by
  intro pos pins s σ H Q I h
  rw [hs]
  show wpAny _ _ (spliced ((false, eval e X.env) :: backTo pos (starEach es X.env))) _ _ s
  refine Calls.spliced_cons (thn (ha pins s σ H _ I h) fun u s1 ⟨x, H1, I1, r1, q1⟩ => ?_)
  exact thn (hr pos pins s1 σ H1 _ I1 q1) fun us s2 ⟨xs, H2, I2, r2, q2⟩ => ⟨x :: xs, H2, I2, .cons r1 r2, q2⟩
def tTup (t : TA) : TE := fun σ H Q => t σ H fun xs H1 => xs.length ≤ sizeLine ∧ ∀ p, H1 p = none → Q (.ref p) (upd H1 p (.tup xs))
def tLst (t : TA) : TE := fun σ H Q => t σ H fun xs H1 => xs.length ≤ sizeLine ∧ ∀ p, H1 p = none → Q (.ref p) (upd H1 p (.lst xs))
theorem pe_tup {x1} (h : PA X es t) : PE X (.Tuple es x1 pos) (tTup t) := by
  intro pins s σ H Q I hq
  refine wpAny_Tuple_spliced (thn (h pos pins s σ H _ I hq) fun us s1 ⟨xs, H1, I1, r, z, q⟩ => ⟨by rw [← r.length]; exact z, ?_⟩)
  have hf : H1 s1.heap.objs.size = none := I1.hok.fresh (Nat.le_refl _)
  refine ⟨.ref s1.heap.objs.size, upd H1 s1.heap.objs.size (.tup xs), I1.laid (t' := s1.toks) (fun b u e => Heap.get?_push_of_some _ e) (Nat.le_refl _) ?_, rfl, q _ hf⟩
  exact ⟨z, us, r, TupX.new _ _⟩
theorem pe_lst (h : PA X es t) : PE X (.List es pos) (tLst t) := by
  intro pins s σ H Q I hq
  refine wpAny_List_spliced (thn (h pos pins s σ H _ I hq) fun us s1 ⟨xs, H1, I1, r, z, q⟩ => ⟨by rw [← r.length]; exact z, ?_⟩)
  have hf : H1 s1.heap.objs.size = none := I1.hok.fresh (Nat.le_refl _)
  refine ⟨.ref s1.heap.objs.size, upd H1 s1.heap.objs.size (.lst xs), I1.laid (t' := s1.toks) (fun b u e => Heap.get?_push_of_some _ e) (Nat.le_refl _) ?_, rfl, q _ hf⟩
  exact ⟨z, us, 0, r, Heap.get?_push_size _ rfl⟩
end
abbrev Sp := List V → Hp → VK → XK → Prop
abbrev CXT := List Env → Hp → Shared → XK → Value → Shared → Prop
structure Env0 (P : Program) (w : World) (K : PySem.W.Frag) (mg : Str → Option Value) (base : Heap) (A : Around) (outer : List Env) (s : Shared) (H : Hp) : Prop where
  frames : A.frames = some outer
  mod : Mod K mg base
  bs : ∀ b o, base.get? b = some o → s.heap.get? b = some o ∧ H b = none
  bsz : base.objs.size ≤ s.heap.objs.size
  funs : s.heap.FunFrames base outer
  frf : ∀ b ∈ frs outer, H b = none
  hok : HOk P w H s.heap
  bare : AllBare s.gens
def CE (outer : List Env) (P : Program) (w : World) (H : Hp) (s : Shared) (Q : VK) (u : Value) (s' : Shared) : Prop :=
  ∃ v H', s'.os = s.os ∧ AllBare s'.gens ∧ Un (frs outer) [] H H' s.heap s'.heap ∧ HOk P w H' s'.heap ∧ RelV v u ∧ Q v H'
def CR (CX : CXT) (outer : List Env) (P : Program) (w : World) (H : Hp) (s : Shared) (Q : VK) (E : XK) (r : Result) (s' : Shared) : Prop :=
  match r with
  | .ok (.ret u) => CE outer P w H s Q u s'
  | .ok _ => False
  | .error e => CX outer H s E e s'
structure FnOk (P : Program) (w : World) (K : PySem.W.Frag) (mg : Str → Option Value) (base : Heap) (CX : CXT) (k : Nat) (f : Addr) (fd : FuncData) (ps : List Str) (sp : Sp) : Prop where
  len : ∀ vs H Q E, sp vs H Q E → vs.length = ps.length
  run : ∀ (A : Around) (outer : List Env) (s : Shared) (H : Hp) (args : Args) (us : List Value) (vs : List V) (Q : VK) (E : XK), Room k A → Env0 P w K mg base A outer s H → BindsTo s fd args (ps.zip us) → Vals vs us → sp vs H Q E →
    codeAny (model P w) A (.call (.ref f) args) (CR CX outer P w H s Q E) s
theorem FnOk.imp {P : Program} {w : World} {K : PySem.W.Frag} {mg : Str → Option Value} {base : Heap} {CX : CXT} {k : Nat} {f : Addr} {fd : FuncData} {ps : List Str} {sp sp' : Sp} (F : FnOk P w K mg base CX k f fd ps sp)
    (h : ∀ vs H Q E, sp' vs H Q E → sp vs H Q E) : FnOk P w K mg base CX k f fd ps sp' :=
  ⟨fun vs H Q E q => F.len vs H Q E (h _ _ _ _ q), fun A outer s H args us vs Q E hr he hb hv hs => F.run A outer s H args us vs Q E hr he hb hv (h _ _ _ _ hs)⟩

theorem Env0.make {P : Program} {w : World} {K : PySem.W.Frag} {mg : Str → Option Value} {base : Heap} {A : Around} {outer : List Env} {s : Shared} {H : Hp} (e : Env0 P w K mg base A outer s H) (C : Addr) (us : List Value) (kw : List (Str × Value)) :
    Env0 P w K mg base (A.under (.builtin "type.__call__" ⟨.ref C :: us, kw⟩)) outer s H := ⟨by first | exact e.frames | (simpa [Around.under, Code.envs, Code.isFrame, pushEnvs] using e.frames), e.mod, e.bs, e.bsz, e.funs, e.frf, e.hok, e.bare⟩
section
variable {X : Cx} {pins : List (Addr × Obj)} {σ : St} {H : Hp} {s s' : Shared}
theorem Inv.env0 (I : Inv X pins σ H s) : Env0 X.prog X.w X.K X.mg X.base X.A X.stack s H :=
  ⟨I.ok.frames, I.ok.mod, I.bs, Nat.le_trans I.ok.bsz I.sz, I.stack, I.stkFree, I.hok, I.bare⟩
theorem Inv.after {Q : VK} {u : Value} (I : Inv X pins σ H s) (h : CE X.stack X.prog X.w H s Q u s') : EP X pins σ Q u s' := by
  obtain ⟨v, H', os, bare, un, hok, r, q⟩ := h
  obtain ⟨hh, g, d, t, os'⟩ := s'
  obtain rfl : os' = s.os := os
  exact ⟨v, H', I.call (h' := hh) (g' := g) (d' := d) (t' := t) (ch := []) un hok bare (fun b z => absurd z (by simp)), r, q⟩
end
def tCall (sp : Sp) (dvs : List V) (E : XK) (t : TA) : TE := fun σ H Q => t σ H fun vs H1 => sp (vs ++ dvs) H1 Q E
def tMeth (C : Addr) (m : Str) (sp : Sp) (dvs : List V) (E : XK) (ta : TE) (t : TA) : TE := fun σ H Q => ta σ H fun x H1 => ∃ a dx fs, x = .ref a ∧ H1 a = some (.ins C dx fs) ∧ fs.lookup m = none ∧
  t σ H1 fun vs H2 => sp (x :: (vs ++ dvs)) H2 Q E
def tMake (C : Addr) (sp : Sp) (dvs : List V) (E : XK) (t : TA) : TE := fun σ H Q => t σ H fun vs H1 => ∀ x dx, H1 x = none → H1 dx = none → dx ≠ x →
  sp (.ref x :: (vs ++ dvs)) (upd (upd H1 dx (.own x)) x (.ins C dx [])) (fun v H2 => v = .non ∧ Q (.ref x) H2) E
def Binds (K : PySem.W.Frag) (fd : FuncData) (ps : List Str) (ds : List Value) : Prop :=
  ∀ (s : Shared) (us : List Value), K.In s.heap → (us ++ ds).length = ps.length → BindsTo s fd ⟨us, []⟩ (ps.zip (us ++ ds))
theorem Binds.all {K : PySem.W.Frag} {fd : FuncData} {ps : List Str} (h : ∀ us : List Value, us.length = ps.length → bindArgs fd ⟨us, []⟩ = pure (ps.zip us)) : Binds K fd ps [] := fun s us _ hl => by
  rw [List.append_nil] at hl ⊢
  exact .of_eq (h us hl)
def Passes (CX : CXT) (X : Cx) (E : XK) : Prop := ∀ (pins : List (Addr × Obj)) (σ : St) (H : Hp) (s : Shared) (e : Value) (s' : Shared), Inv X pins σ H s → CX X.stack H s E e s' → X.xe e s'

section
variable {X : Cx} {CX : CXT} {k : Nat} {f C : Addr} {fd : FuncData} {ps : List Str} {sp : Sp} {dvs : List V} {ds : List Value} {E : XK} {x m : Str} {p pos apos : Pos} {e o : Expr} {es : List Expr} {ta : TE} {t : TA}
theorem run_fn {pins : List (Addr × Obj)} {σ : St} {H : Hp} {s : Shared} {Q : VK} {us : List Value} {vs : List V} (F : FnOk X.prog X.w X.K X.mg X.base CX k f fd ps sp) (hr : Room k X.A) (hb : Binds X.K fd ps ds) (hd : Vals dvs ds) (hx : Passes CX X E)
    (I : Inv X pins σ H s) (r : Vals vs us) (h : sp (vs ++ dvs) H Q E) : wpAny (model X.prog X.w) X.A (call (.ref f) us) (EP X pins σ Q) X.xe s := by
  have r2 : Vals (vs ++ dvs) (us ++ ds) := r.append hd
  have hl : (us ++ ds).length = ps.length := by rw [← r2.length]; exact F.len _ _ _ _ h
  refine wpAny_call (codeAny_mono (F.run X.A X.stack s H ⟨us, []⟩ (us ++ ds) (vs ++ dvs) Q E hr I.env0 (hb s us I.kIn hl) r2 h) fun r s' hq => ?_)
  cases r with
  | error e => exact hx pins σ H s e s' I hq
  | ok fl =>
    cases fl with
    | ret u => exact I.after hq
    | next => exact False.elim hq
    | brk => exact False.elim hq
    | cont => exact False.elim hq

theorem pe_call (F : FnOk X.prog X.w X.K X.mg X.base CX k f fd ps sp) (hr : Room k X.A) (hg : Gl X x) (hm : X.mg x = some (.ref f)) (hk : PySem.W.keepIn X.K (.ref f) = true) (hb : Binds X.K fd ps ds) (hd : Vals dvs ds) (hx : Passes CX X E)
    (ha : PA X (e :: es) t) (hdb : (x == ("__debug__" : Str)) = false := by decide) (he : starEach (e :: es) X.env = (false, eval e X.env) :: starEach es X.env := by rfl) (hpl : (backTo pos (starEach es X.env)).any (·.1) = false := by rfl) :
    PE X (.Call (.Name x p) (e :: es) [] pos) (tCall sp dvs E t) := by
  intro pins s σ H Q I h
  refine wpAny_Call_Name_kw (ld_glob I hg hm ?_ hdb)
  refine PySem.W.callWith_K (h₀ := X.base) I.ok.mod.kin hk (thn (ha pos pins s σ H _ I h) fun us s1 ⟨vs, H1, I1, r, q⟩ => ⟨I1.kIn, ?_⟩) he hpl
  exact run_fn F hr hb hd hx I1 r q
theorem pe_meth {pl : Sem Bool} (he : PE X o ta) (c : Cls X.K C) (hm : Meth X.K C m f) (F : FnOk X.prog X.w X.K X.mg X.base CX k f fd ps sp) (hr : Room k X.A) (hb : Binds X.K fd ps ds) (hd : Vals dvs ds) (hx : Passes CX X E) (ha : PA X (e :: es) t)
    (hst : starEach (e :: es) X.env = (false, eval e X.env) :: starEach es X.env := by rfl) (hpl : (backTo pos (starEach es X.env)).any (·.1) = false := by rfl)
    (ht : eval (.Call (.Attribute o m apos) (e :: es) [] pos) X.env = (do
      let ov ← eval o X.env
      standAt apos.atName
      let (f, first) ← holding [ov] (getMethod ov m pl)
      callWith pos f first (backTo pos (starEach (e :: es) X.env)) (backToKw pos (keywordEach [] X.env))) := by rfl) :
    PE X (.Call (.Attribute o m apos) (e :: es) [] pos) (tMeth C m sp dvs E ta t) := by
  intro pins s σ H Q I h
  refine PySem.W.methodCall_KW (pl := pl) (thn (he pins s σ H _ I h) fun u s1 ⟨x, H1, I1, rx, a, dx, fs, ex, ea, l, q⟩ => ?_) ht
  subst ex
  obtain rfl : u = Value.ref a := rx
  refine getmeth_ok I1 ea c hm l ?_
  refine PySem.W.callWith_K (first := [.ref a]) (h₀ := X.base) I.ok.mod.kin hm.kp (thn (ha pos pins s1 σ H1 _ I1 q) fun us s2 ⟨vs, H2, I2, r, q2⟩ => ⟨I2.kIn, ?_⟩) hst hpl
  exact run_fn (us := .ref a :: us) (vs := .ref a :: vs) F hr hb hd hx I2 (.cons rfl r) q2
theorem pe_meth0 {pl : Sem Bool} (he : PE X o ta) (c : Cls X.K C) (hm : Meth X.K C m f) (F : FnOk X.prog X.w X.K X.mg X.base CX k f fd ps sp) (hr : Room k X.A) (hb : Binds X.K fd ps ds) (hd : Vals dvs ds) (hx : Passes CX X E)
    (ht : eval (.Call (.Attribute o m apos) [] [] pos) X.env = (do
      let ov ← eval o X.env
      standAt apos.atName
      let (f, first) ← holding [ov] (getMethod ov m pl)
      callWith pos f first (backTo pos (starEach [] X.env)) (backToKw pos (keywordEach [] X.env))) := by rfl) :
    PE X (.Call (.Attribute o m apos) [] [] pos) (tMeth C m sp dvs E ta tNil) := by
  intro pins s σ H Q I h
  refine PySem.W.methodCall_KW (pl := pl) (thn (he pins s σ H _ I h) fun u s1 ⟨x, H1, I1, rx, a, dx, fs, ex, ea, l, q⟩ => ?_) ht
  subst ex
  obtain rfl : u = Value.ref a := rx
  refine getmeth_ok I1 ea c hm l ?_
  exact PySem.W.callWith_K0 (first := [.ref a]) I1.kIn hm.kp (run_fn (us := [.ref a]) (vs := [.ref a]) F hr hb hd hx I1 (.cons rfl .nil) q)
structure Mk (K : PySem.W.Frag) (C f : Addr) : Prop where
  makes : PySem.W.makesIn K C = true
  init : PySem.W.findIn K (.ref C) "__init__" = some (some (.ref f))
  fn : PySem.W.isFn K (.ref f) = true
  kp : PySem.W.keepIn K (.ref C) = true

theorem run_make {pins : List (Addr × Obj)} {σ : St} {H : Hp} {s : Shared} {Q : VK} {us : List Value} {vs : List V} (M : Mk X.K C f) (F : FnOk X.prog X.w X.K X.mg X.base CX k f fd ps sp) (hr : Room (k + 1) X.A) (hb : Binds X.K fd ps ds) (hd : Vals dvs ds)
    (hx : Passes CX X E) (I : Inv X pins σ H s) (r : Vals vs us)
    (h : ∀ x dx, H x = none → H dx = none → dx ≠ x → sp (.ref x :: (vs ++ dvs)) (upd (upd H dx (.own x)) x (.ins C dx [])) (fun v H2 => v = .non ∧ Q (.ref x) H2) E) :
    wpAny (model X.prog X.w) X.A (call (.ref C) us) (EP X pins σ Q) X.xe s := by
  have hq := h (s.heap.objs.size + 1) s.heap.objs.size (I.hok.fresh (Nat.le_succ _)) (I.hok.fresh (Nat.le_refl _)) (Nat.ne_of_lt (Nat.lt_succ_self _))
  have I2 := Inv.made (C := C) I
  have r2 : Vals (V.ref (s.heap.objs.size + 1) :: (vs ++ dvs)) (Value.ref (s.heap.objs.size + 1) :: (us ++ ds)) := .cons rfl (r.append hd)
  have hl : (Value.ref (s.heap.objs.size + 1) :: us ++ ds).length = ps.length := by
    have e := r2.length
    rw [F.len _ _ _ _ hq] at e
    exact e.symm
  refine wpAny_call (make_map (f := f) I.kIn M.makes M.init (beq_iff_eq.mp M.fn) (codeAny_mono (F.run _ X.stack _ _ ⟨Value.ref (s.heap.objs.size + 1) :: us, []⟩ (Value.ref (s.heap.objs.size + 1) :: (us ++ ds)) _ _ E (hr.make C us [])
    (I2.env0.make C us []) (hb _ (Value.ref (s.heap.objs.size + 1) :: us) I2.kIn hl) r2 hq) fun r s' hq' => ?_))
  cases r with
  | error e => exact hx pins σ _ _ e s' I2 hq'
  | ok fl =>
    cases fl with
    | ret u =>
      obtain ⟨v, H', I3, rv, ev, q3⟩ := I2.after hq'
      subst ev
      exact ⟨rv, ⟨V.ref (s.heap.objs.size + 1), H', I3, rfl, q3⟩⟩
    | next => exact False.elim hq'
    | brk => exact False.elim hq'
    | cont => exact False.elim hq'
theorem pe_make (M : Mk X.K C f) (F : FnOk X.prog X.w X.K X.mg X.base CX k f fd ps sp) (hr : Room (k + 1) X.A) (hg : Gl X x) (hm : X.mg x = some (.ref C)) (hb : Binds X.K fd ps ds) (hd : Vals dvs ds) (hx : Passes CX X E)
    (ha : PA X (e :: es) t) (hdb : (x == ("__debug__" : Str)) = false := by decide) (he : starEach (e :: es) X.env = (false, eval e X.env) :: starEach es X.env := by rfl) (hpl : (backTo pos (starEach es X.env)).any (·.1) = false := by rfl) :
    PE X (.Call (.Name x p) (e :: es) [] pos) (tMake C sp dvs E t) := by
  intro pins s σ H Q I h
  refine wpAny_Call_Name_kw (ld_glob I hg hm ?_ hdb)
  refine PySem.W.callWith_K (h₀ := X.base) I.ok.mod.kin M.kp (thn (ha pos pins s σ H _ I h) fun us s1 ⟨vs, H1, I1, r, q⟩ => ⟨I1.kIn, ?_⟩) he hpl
  exact run_make M F hr hb hd hx I1 r q
end
section
variable {X : Cx} {CX : CXT} {k : Nat} {f C : Addr} {fd : FuncData} {ps ks : List Str} {sp : Sp} {E : XK} {x m : Str} {p pos apos kpos : Pos} {e o : Expr} {es : List Expr} {kws : List Keyword} {te ta : TE} {t tk : TA} {nm : Option Str}
variable {g : List Value → List Value → List Value} {gV : List V → List V → List V}
end
structure FnScope (N P : List Str) (sc : Scope) : Prop where
  kind : sc.kind = .function
  co : sc.isCoroutine = false
  gen : sc.isGenerator = false
  nd : N.Nodup
  pre : N.take P.length = P
  par : ∀ x ∈ P, sc.names.lookup x = some .local ∨ sc.names.lookup x = some .cell
  nofree : ∀ y ∈ sc.names, y.2 ≠ .free

theorem bindL_out {kindOf : Str → Option NameKind} {x : Str} : ∀ {binds : List (Str × Value)} {m : Str → Option Value}, (∀ v, (x, v) ∉ binds) → bindL kindOf binds m x = m x
  | [], _, _ => rfl
  | (n, v) :: r, m, h => by
    unfold bindL
    rw [bindL_out fun w hw => h w (List.mem_cons_of_mem _ hw)]
    split
    · have : x ≠ n := by rintro rfl; exact h v List.mem_cons_self
      simp [this]
    · rfl
theorem bindC_out {kindOf : Str → Option NameKind} {x : Str} : ∀ {binds : List (Str × Value)} {m : Str → Option Value}, (∀ v, (x, v) ∉ binds) → bindC kindOf binds m x = m x
  | [], _, _ => rfl
  | (n, v) :: r, m, h => by
    unfold bindC
    rw [bindC_out fun w hw => h w (List.mem_cons_of_mem _ hw)]
    split
    · rfl
    · have : x ≠ n := by rintro rfl; exact h v List.mem_cons_self
      simp [this]
theorem bindL_get {kindOf : Str → Option NameKind} {x : Str} {v : Value} : ∀ {P : List Str} {vs : List Value} {i : Nat} {m : Str → Option Value}, P.Nodup → P[i]? = some x → vs[i]? = some v → kindOf x = some .local →
    bindL kindOf (P.zip vs) m x = some v
  | [], _, _, _, _, h, _, _ => by simp at h
  | _ :: _, [], _, _, _, _, h, _ => by simp at h
  | p :: P, w :: vs, 0, m, nd, h1, h2, hk => by
    simp at h1 h2; subst h1; subst h2
    show bindL kindOf ((p, w) :: P.zip vs) m p = _
    unfold bindL
    rw [bindL_out fun v hv => (List.nodup_cons.mp nd).1 (List.of_mem_zip hv).1, if_pos hk]
    simp
  | p :: P, w :: vs, i + 1, m, nd, h1, h2, hk => by
    show bindL kindOf ((p, w) :: P.zip vs) m x = _
    unfold bindL
    exact bindL_get (i := i) (List.nodup_cons.mp nd).2 (by simpa using h1) (by simpa using h2) hk
theorem bindC_get {kindOf : Str → Option NameKind} {x : Str} {v : Value} : ∀ {P : List Str} {vs : List Value} {i : Nat} {m : Str → Option Value}, P.Nodup → P[i]? = some x → vs[i]? = some v → kindOf x ≠ some .local →
    bindC kindOf (P.zip vs) m x = some v
  | [], _, _, _, _, h, _, _ => by simp at h
  | _ :: _, [], _, _, _, _, h, _ => by simp at h
  | p :: P, w :: vs, 0, m, nd, h1, h2, hk => by
    simp at h1 h2; subst h1; subst h2
    show bindC kindOf ((p, w) :: P.zip vs) m p = _
    unfold bindC
    rw [bindC_out fun v hv => (List.nodup_cons.mp nd).1 (List.of_mem_zip hv).1, if_neg hk]
    simp
  | p :: P, w :: vs, i + 1, m, nd, h1, h2, hk => by
    show bindC kindOf ((p, w) :: P.zip vs) m x = _
    unfold bindC
    exact bindC_get (i := i) (List.nodup_cons.mp nd).2 (by simpa using h1) (by simpa using h2) hk
def start (N : List Str) (vs : List V) : St := vs.map some ++ List.replicate (N.length - vs.length) none
def cxOf (CX : CXT) (P : Program) (w : World) (K : PySem.W.Frag) (mg : Str → Option Value) (base : Heap) (N : List Str) (qual : Str) (scope : Scope) (f : Addr) (cd : Value) (A : Around) (outer : List Env) (s : Shared) (H : Hp) (E : XK) : Cx where
  prog := P
  w := w
  K := K
  mg := mg
  base := base
  A := A.deeper (envOfC qual scope s.heap.objs.size f cd)
  N := N
  s₀ := s
  H₀ := H
  env := envOfC qual scope s.heap.objs.size f cd
  outer := outer
  stack := envOfC qual scope s.heap.objs.size f cd :: outer
  ex := []
  calm := true
  fn := fun _ => true
  pn := []
  xe := fun e s' => wpAny (model P w) (A.deeper (envOfC qual scope s.heap.objs.size f cd)) (leaving (envOfC qual scope s.heap.objs.size f cd) e) (fun _ s'' => CX outer H s E e s'') (fun e' s'' => CX outer H s E e' s'') s'

theorem cell_has {sc : Scope} {n : Nat} {x : Str} (h : sc.names.lookup x = some .cell) : ∃ c, (cellsFrom n sc.names []).lookup x = some c := by
  have q := PySem.W.cellsFrom_some sc.names n [] (.inl h)
  exact Option.isSome_iff_exists.mp q

theorem inv_start {CX : CXT} {P : Program} {w : World} {K : PySem.W.Frag} {mg : Str → Option Value} {base : Heap} {N ps : List Str} {qual : Str} {scope : Scope} {f : Addr} {cd : Value} {A : Around} {outer : List Env} {s s1 : Shared} {H : Hp} {E : XK} {us : List Value} {vs : List V}
    (S : FnScope N ps scope) (hd : A.handled = none) (e0 : Env0 P w K mg base A outer s H) (hl : vs.length = ps.length) (r : Vals vs us)
    (x : InCallC s s.heap.objs.size (bindL (envOfC qual scope s.heap.objs.size f cd).kindOf (ps.zip us) fun _ => none) (cellsFrom (s.heap.objs.size + 1) scope.names []) (bindC (envOfC qual scope s.heap.objs.size f cd).kindOf (ps.zip us) fun _ => none) s1) :
    Inv (cxOf CX P w K mg base N qual scope f cd A outer s H E) [] (start N vs) H s1 := by
  have hpl : ps.length ≤ N.length := by have := congrArg List.length S.pre; rw [List.length_take] at this; omega
  obtain ⟨h1, tk, rfl, hk⟩ := x.done
  have noA : ∀ b : Addr, b ∉ (cxOf CX P w K mg base N qual scope f cd A outer s H E).ex := fun b z => absurd (show b ∈ ([] : List Addr) from z) (by simp)
  refine ⟨⟨e0.mod, S.kind, rfl, rfl, Nat.le_refl _, fun y z c h1 h2 => ?_, fun y hy => ?_, fun y c _ h => ?_, fun _ => hd, Around.frames_deeper e0.frames, .inr ⟨rfl, rfl⟩, fun b z => absurd z (noA b), e0.bs, e0.bsz, fun b _ _ => noA b, fun b z => absurd z (noA b), e0.funs, e0.frf⟩,
    rfl, e0.bare, Un.kept hk, ⟨_, x.toInCall.ns, fun i y v h1 h2 h3 => ?_⟩, fun y c h => ⟨_, x.cell y c h⟩, e0.hok.fresh (Nat.le_refl _), fun y c h => ?_, fun p hp => absurd (show p ∈ ([] : List (Addr × Obj)) from hp) (by simp), e0.hok.kept hk, ?_⟩
  · exact name_of_addr x.apart (PySem.mem_of_lookup h1) (PySem.mem_of_lookup h2)
  · have hy : scope.names.lookup y = some .cell ∨ scope.names.lookup y = some .free := hy
    rcases hy with hy | hy
    · exact cell_has hy
    · exact absurd rfl (S.nofree _ (PySem.mem_of_lookup hy))
  · exact Nat.le_of_lt (x.above y c (PySem.mem_of_lookup h))
  · have hi : i < vs.length := by
      unfold start at h2
      by_cases hi : i < vs.length
      · exact hi
      · rw [List.getElem?_append_right (by simpa using hi)] at h2
        rw [List.getElem?_replicate] at h2
        split at h2 <;> cases h2
    have ha : vs[i]? = some v := by
      unfold start at h2
      rw [List.getElem?_append_left (by simpa using hi), List.getElem?_map] at h2
      cases e : vs[i]? with
      | none => rw [e] at h2; cases h2
      | some a => rw [e] at h2; cases h2; rfl
    obtain ⟨u, hu, rv⟩ := r.get ha
    have hp : ps[i]? = some y := by
      rw [← S.pre, List.getElem?_take_of_lt (by omega)]; exact h1
    have ndP : ps.Nodup := by rw [← S.pre]; exact S.nd.sublist (List.take_sublist _ _)
    refine ⟨u, rv, ?_⟩
    rcases S.par y (List.mem_of_getElem? hp) with k | k
    · exact .inl ⟨k, bindL_get ndP hp hu k⟩
    · obtain ⟨c, e⟩ := cell_has (n := s.heap.objs.size + 1) k
      refine .inr ⟨.inl k, c, e, ?_⟩
      have q := x.cell y c e
      rw [bindC_get ndP hp hu (by show scope.names.lookup y ≠ _; rw [k]; decide)] at q
      exact q
  · exact e0.hok.fresh (Nat.le_of_lt (x.above y c (PySem.mem_of_lookup h)))
  · unfold start
    show _ = N.length
    rw [List.length_append, List.length_map, List.length_replicate]
    omega
theorem fn_of {CX : CXT} {P : Program} {w : World} {K : PySem.W.Frag} {mg : Str → Option Value} {base : Heap} {k : Nat} {f : Addr} {name qual : Str} {params : Arguments} {body : List Stmt} {scope : Scope} {dV kV doc pm cdv ct oc : Value} {an od : Option Addr}
    {osl : Array (Option Value)} {N ps : List Str} {sp : Sp} (lk : K.lookup f = some ⟨oc, od, .func (PySem.W.fnOf name qual params body scope dV kV doc pm an cdv ct), osl⟩) (hcd : PySem.W.codeIn K cdv qual = true) (S : FnScope N ps scope)
    (len : ∀ vs H Q E, sp vs H Q E → vs.length = ps.length)
    (hbody : ∀ (A : Around) (outer : List Env) (s : Shared) (H : Hp) (vs : List V) (Q : VK) (E : XK), Room k (A.deeper (envOfC qual scope s.heap.objs.size f cdv)) → sp vs H Q E →
      ∃ t, PSs (cxOf CX P w K mg base N qual scope f cdv A outer s H E) body t ∧ t { nx := fun _ H' => Q .non H', rt := Q } (start N vs) H) :
    FnOk P w K mg base CX (k + 1) f (PySem.W.fnOf name qual params body scope dV kV doc pm an cdv ct) ps sp := by
  refine ⟨len, fun A outer s H args us vs Q E hr e0 hb r hsp => ?_⟩
  have hl := len _ _ _ _ hsp
  have KX : K.In s.heap := e0.mod.kin.keeps fun b o e => (e0.bs b o e).1
  have lim : s.heap.NoLimit := e0.mod.nolimit.keeps fun b o e => (e0.bs b o e).1
  have hkind : ∀ y ∈ ps.zip us, scope.names.lookup y.1 = some .local ∨ (scope.names.lookup y.1 = some .cell ∧ ((cellsFrom (s.heap.objs.size + 1) scope.names []).lookup y.1).isSome = true) := fun ⟨n, v⟩ hy => by
    rcases S.par n (List.of_mem_zip hy).1 with q | q
    · exact .inl q
    · exact .inr ⟨q, PySem.W.cellsFrom_some _ _ _ (.inl q)⟩
  refine codeAny_call_function hr.depth (KX _ _ lk) rfl S.co S.gen rfl (PySem.W.codeRec_of KX hcd) (hb _ _ _ _ ?_)
  refine wpAny_newFunctionEnv_cells S.kind hkind fun env he s1 x => ?_
  subst he
  refine ⟨lim.keeps x.toInCall.keep, codeAny_func ?_⟩
  obtain ⟨t, ht, hq⟩ := hbody A outer s H vs Q E (hr.deeper _) hsp
  have I : Inv (cxOf CX P w K mg base N qual scope f cdv A outer s H E) [] (start N vs) H s1 := inv_start S hr.hd e0 hl r x
  refine wpAny_mono (ht [] s1 (start N vs) H _ I hq) (fun fl s' hs => ?_) fun e s' hs => hs
  have fin : ∀ {σ' : St} {H' : Hp} {v : V} {u : Value}, Inv (cxOf CX P w K mg base N qual scope f cdv A outer s H E) [] σ' H' s' → RelV v u → Q v H' → CE outer P w H s Q u s' :=
    fun {σ' H' v u} J rv q => ⟨v, H', J.os, J.bare, J.base, J.hok, rv, q⟩
  cases fl with
  | ret u =>
    obtain ⟨v, σ', H', J, rv, q⟩ := hs
    exact fin J rv q
  | next =>
    obtain ⟨σ', H', J, q⟩ := hs
    exact fin (v := V.non) (u := Value.none) J rfl q
  | brk =>
    obtain ⟨_, _, _, q⟩ := hs
    exact False.elim q
  | cont =>
    obtain ⟨_, _, _, q⟩ := hs
    exact False.elim q
end L2

namespace L2
open PySem PySem.Spec PyProof.Rows
section
variable {X : Cx} {x : Str} {p pos : Pos} {e : Expr} {es : List Expr} {t : TA} {id T : String} {r : List V → Hp → VK → Prop}

def tCB (r : List V → Hp → VK → Prop) (t : TA) : TE := fun σ H Q => t σ H fun vs H1 => r vs H1 Q
theorem pe_callB (hc : CallR X (.builtin id) r) (hg : Gl X x) (hm : X.mg x = none) (hv : bootBuiltins x = some (.builtin id)) (ha : PA X (e :: es) t) (hn : x ≠ "__name__" := by decide) (hdb : (x == ("__debug__" : Str)) = false := by decide)
    (he : starEach (e :: es) X.env = (false, eval e X.env) :: starEach es X.env := by rfl) (hpl : (backTo pos (starEach es X.env)).any (·.1) = false := by rfl) : PE X (.Call (.Name x p) (e :: es) [] pos) (tCB r t) := by
  intro pins s σ H Q I h
  refine wpAny_Call_Name_kw (ld_blt I hg hm hv ?_ hn hdb)
  exact PyProof.Rows.callWith_builtin1 (thn (ha pos pins s σ H _ I h) fun us s1 ⟨vs, H1, I1, r1, q1⟩ => hc pins s1 σ H1 vs us Q I1 r1 q1) he hpl
theorem pe_callTy (hc : CallR X (.type T) r) (hg : Gl X x) (hm : X.mg x = none) (hv : bootBuiltins x = some (.type T)) (ha : PA X (e :: es) t) (hn : x ≠ "__name__" := by decide) (hdb : (x == ("__debug__" : Str)) = false := by decide)
    (he : starEach (e :: es) X.env = (false, eval e X.env) :: starEach es X.env := by rfl) (hpl : (backTo pos (starEach es X.env)).any (·.1) = false := by rfl) : PE X (.Call (.Name x p) (e :: es) [] pos) (tCB r t) := by
  intro pins s σ H Q I h
  refine wpAny_Call_Name_kw (ld_blt I hg hm hv ?_ hn hdb)
  exact PyProof.Rows.callWith_type1 (thn (ha pos pins s σ H _ I h) fun us s1 ⟨vs, H1, I1, r1, q1⟩ => hc pins s1 σ H1 vs us Q I1 r1 q1) he hpl
end
end L2

namespace HT
open PySem PyProof.Rows

section
open PySem.SeqAt
open PySem.AutoSeq1 (wpAny_loadPart')
open PySem.MeetsSeq PySem.MeetsSeq2 PySem.MeetsSeq3

end

section
variable {prog : Program} {w : World} {A : Around} {E : Value → Shared → Prop} {s : Shared}
def sIx (n d : Nat) : Option Int → Nat
  | none => d
  | some v => if v < 0 then (v + (n : Int)).toNat else min v.toNat n
end
end HT

namespace L2
open PySem PySem.Spec PyProof.Rows
abbrev TO := St → Hp → (Option Int → Hp → Prop) → Prop
def PO (X : Cx) (e : Option Expr) (t : TO) : Prop :=
  ∀ (pins : List (Addr × Obj)) (s : Shared) (σ : St) (H : Hp) (Q : Option Int → Hp → Prop), Inv X pins σ H s → t σ H Q →
    wpAny (model X.prog X.w) X.A (evalPart e X.env) (fun u s' => ∃ o H', Inv X pins σ H' s' ∧ IsPart u o ∧ Q o H') X.xe s
def tNoPart : TO := fun _ H Q => Q none H
def tPart (t : TE) : TO := fun σ H Q => t σ H fun x H1 => ∃ i, x = .int i ∧ Q (some i) H1

section
variable {X : Cx} {e : Expr} {te : TE} {lo hi : Option Expr} {tl th : TO} {pos p2 : Pos}

theorem po_none : PO X none tNoPart := by
  intro pins s σ H Q I h
  rw [evalPart_none]
  exact wpAny_pure ⟨none, H, I, .none, h⟩
theorem po_some (h : PE X e te) : PO X (some e) (tPart te) := by
  intro pins s σ H Q I hw
  rw [evalPart_some]
  refine thn (h pins s σ H _ I hw) fun u s1 ⟨x, H1, I1, r1, q1⟩ => ?_
  obtain ⟨i, rfl, q⟩ := q1
  obtain ⟨t, rfl⟩ := r1
  exact ⟨some i, H1, I1, .int i t, q⟩
def SlR (X : Cx) (r : V → Option Int → Option Int → Hp → VK → Prop) : Prop :=
  ∀ (pins : List (Addr × Obj)) (s : Shared) (σ : St) (H : Hp) (x : V) (v vl vu : Value) (lo hi : Option Int) (sl : Addr) (Q : VK), Inv X pins σ H s → RelV x v → s.heap.IsSliceOf sl vl vu .none → IsPart vl lo → IsPart vu hi → r x lo hi H Q →
    ∃ T id, typeLookup (.type T) "__getitem__" = pure (some (.builtin id)) ∧ s.TypeIs v T ∧ wpAny (model X.prog X.w) X.A (getItem v (.ref sl)) (EP X pins σ Q) X.xe s
def tSl (r : V → Option Int → Option Int → Hp → VK → Prop) (te : TE) (tl th : TO) : TE := fun σ H Q => te σ H fun x H1 => tl σ H1 fun l H2 => th σ H2 fun u H3 => r x l u H3 Q
theorem pe_slice {r : V → Option Int → Option Int → Hp → VK → Prop} (hr : SlR X r) (he : PE X e te) (hl : PO X lo tl) (hu : PO X hi th) : PE X (.Subscript e (.Slice lo hi none p2) pos) (tSl r te tl th) := by
  intro pins s σ H Q I h
  refine Subscript_ (thn (he pins s σ H _ I h) fun v s1 ⟨x, H1, I1, r1, q1⟩ => ?_)
  refine wpAny_Slice (thn (hl pins s1 σ H1 _ I1 q1) fun vl s2 ⟨l, H2, I2, pl, q2⟩ => thn (hu pins s2 σ H2 _ I2 q2) fun vu s3 ⟨u, H3, I3, pu, q3⟩ => ?_)
  rw [evalPart_none]
  refine wpAny_pure ?_
  have I4 : Inv X pins σ H3 { s3 with heap := s3.heap.push { cls := .type "slice", data := .fields #[vl, vu, .none] } } := I3.kept (t' := s3.toks) fun b ob q => Heap.get?_push_of_some _ q
  obtain ⟨T, id, hT, ht, hg⟩ := hr pins { s3 with heap := s3.heap.push { cls := .type "slice", data := .fields #[vl, vu, .none] } } σ H3 x v vl vu l u s3.heap.objs.size Q I4 r1 (Heap.IsSliceOf.new ..) pl pu q3
  show wpAny (model X.prog X.w) X.A (subscriptTail e (.Slice lo hi none p2) v (.ref s3.heap.objs.size)) (EP X pins σ Q) X.xe { s3 with heap := s3.heap.push { cls := .type "slice", data := .fields #[vl, vu, .none] } }
  exact tail_any (ops := [.ref s3.heap.objs.size, v]) ht hT hg (by with_unfolding_all rfl)
def cutV (xs : List V) (lo hi : Option Int) : List V := (xs.drop (HT.sIx xs.length 0 lo)).take (HT.sIx xs.length xs.length hi - HT.sIx xs.length 0 lo)
theorem cutV_length (xs : List V) (lo hi : Option Int) : (cutV xs lo hi).length ≤ xs.length := by
  unfold cutV
  rw [List.length_take, List.length_drop]
  omega
end
end L2

namespace L2
open PySem PySem.Spec PyProof.Rows
def ixN (n : Nat) (i : Int) : Option Nat := if 0 ≤ i then (if i < n then some i.toNat else none) else if -(n : Int) ≤ i then some (i + n).toNat else none
def atI {α : Type} (xs : List α) (i : Int) : Option α := (ixN xs.length i).bind fun j => xs[j]?
theorem ixN_seq {n : Nat} {i : Int} {j : Nat} (h : ixN n i = some j) : seqIndex? i n = some j ∧ j < n ∧ -(n : Int) ≤ i ∧ i < n := by
  unfold ixN at h
  by_cases h0 : 0 ≤ i
  · rw [if_pos h0] at h
    by_cases h1 : i < n
    · rw [if_pos h1] at h
      have e : i.toNat = j := Option.some.inj h
      exact ⟨by rw [seqIndex_of h0 h1, e], by omega, by omega, h1⟩
    · rw [if_neg h1] at h; cases h
  · rw [if_neg h0] at h
    by_cases h1 : -(n : Int) ≤ i
    · rw [if_pos h1] at h
      have e : (i + n).toNat = j := Option.some.inj h
      exact ⟨by rw [seqIndex_neg (by omega) h1, e], by omega, h1, by omega⟩
    · rw [if_neg h1] at h; cases h
theorem atI_get {α : Type} {xs : List α} {i : Int} {v : α} (h : atI xs i = some v) : ∃ j, seqIndex? i xs.length = some j ∧ xs[j]? = some v ∧ j < xs.length ∧ -(xs.length : Int) ≤ i ∧ i < xs.length := by
  unfold atI at h
  cases e : ixN xs.length i with
  | none => rw [e] at h; cases h
  | some j =>
    rw [e] at h
    obtain ⟨h1, h2, h3, h4⟩ := ixN_seq e
    exact ⟨j, h1, h, h2, h3, h4⟩
theorem atI_nat {α : Type} {xs : List α} {j : Nat} {v : α} (h : xs[j]? = some v) : atI xs (j : Int) = some v := by
  have hj : j < xs.length := (List.getElem?_eq_some_iff.mp h).1
  have e : ixN xs.length (j : Int) = some j := by
    unfold ixN
    rw [if_pos (by omega), if_pos (by omega)]; simp
  unfold atI; rw [e]; exact h
theorem atI_last {α : Type} (xs : List α) (v : α) : atI (xs ++ [v]) (-1) = some v := by
  have hl : (xs ++ [v]).length = xs.length + 1 := by simp
  have e : ixN (xs ++ [v]).length (-1) = some xs.length := by
    unfold ixN
    rw [hl, if_neg (by decide), if_pos (by omega)]
    congr 1
    omega
  unfold atI
  rw [e]
  show (xs ++ [v])[xs.length]? = some v
  simp
def PlainIx (b : Expr) : Prop := ∀ o i, subscripted b false o i = operate [o, i] (getItem o i)
def IxR (X : Cx) (r : R2) : Prop :=
  ∀ (value slice : Expr) (pins : List (Addr × Obj)) (s : Shared) (σ : St) (H : Hp) (x y : V) (v u : Value) (Q : VK), Inv X pins σ H s → RelV x v → RelV y u → r x y H Q →
    subscripted slice false v u = operate [v, u] (getItem v u) → wpAny (model X.prog X.w) X.A (subscriptTail value slice v u) (EP X pins σ Q) X.xe s
def MtR (X : Cx) (id : String) (r : V → List V → Hp → VK → Prop) : Prop :=
  ∀ (pins : List (Addr × Obj)) (s : Shared) (σ : St) (H : Hp) (x : V) (xs : List V) (v : Value) (us : List Value) (Q : VK), Inv X pins σ H s → RelV x v → Vals xs us → r x xs H Q →
    wpAny (model X.prog X.w) X.A (call (.builtin id) (v :: us)) (EP X pins σ Q) X.xe s
section
variable {X : Cx} {a b : Expr} {ta tb : TE} {pos : Pos}
theorem pe_ix {r : R2} (hr : IxR X r) (ha : PE X a ta) (hb : PE X b tb) (hs : PlainIx b) : PE X (.Subscript a b pos) (tOp r ta tb) := by
  intro pins s σ H Q I h
  exact Subscript_ (binT ha hb I h fun v u s2 x y H2 I2 rx ry q => hr a b pins s2 σ H2 x y v u Q I2 rx ry q (hs _ _))

def rIxL (K : PySem.W.Frag) : R2 := fun x y H Q => ∃ p xs i v, x = .ref p ∧ y = .int i ∧ SqL K H p xs ∧ atI xs i = some v ∧ Q v H
def rIxT (K : PySem.W.Frag) : R2 := fun x y H Q => ∃ p xs i v, x = .ref p ∧ y = .int i ∧ SqT K H p xs ∧ atI xs i = some v ∧ Q v H
theorem ix_list : IxR X (rIxL X.K) := by
  intro value slice pins s σ H x y v u Q I rx ry h hs
  obtain ⟨p, xs, i, z, rfl, rfl, hq, he, q⟩ := h
  cases rx
  obtain ⟨t, rfl⟩ := ry
  obtain ⟨its, r, pl, hz⟩ := I.list hq
  obtain ⟨j, h1, h2, h3, h4, h5⟩ := atI_get he
  obtain ⟨w, ew, rw'⟩ := r.get h2
  have hl := r.length
  have hn := line63
  have fin : EP X pins σ Q w s := ⟨z, H, I, rw', q⟩
  by_cases h0 : 0 ≤ i
  · have hj : i.toNat = j := by
      rw [seqIndex_of h0 h5] at h1
      exact Option.some.inj h1
    exact item_listR pl.isList h0 (by omega) (by rw [hj]; simpa using ew) fin hs
  · have hj : (i + (its.toArray.size : Int)).toNat = j := by
      rw [seqIndex_neg (by omega) h4] at h1
      rw [List.size_toArray, ← hl]
      exact Option.some.inj h1
    exact subscriptTail_builtinR (x := w) pl.isList.typeIs slot_list_getitem.lookup
      (wpAny_getItem_list_neg (Q := fun r s' => r = w ∧ EP X pins σ Q r s') pl.isList (by omega) (by rw [List.size_toArray] <;> omega) (by omega) (by rw [hj]; simpa using ew) ⟨rfl, fin⟩) hs
theorem ix_tup : IxR X (rIxT X.K) := by
  intro value slice pins s σ H x y v u Q I rx ry h hs
  obtain ⟨p, xs, i, z, rfl, rfl, hq, he, q⟩ := h
  cases rx
  obtain ⟨t, rfl⟩ := ry
  obtain ⟨its, r, pl, hz⟩ := I.tuple hq
  obtain ⟨j, h1, h2, h3, h4, h5⟩ := atI_get he
  obtain ⟨w, ew, rw'⟩ := r.get h2
  have hl := r.length
  have hn := line63
  have fin : EP X pins σ Q w s := ⟨z, H, I, rw', q⟩
  exact subscriptTail_builtinR (x := w) pl.typeIs slot_tuple_getitem.lookup
    (getItem_tuple (j := j) (Q := fun r s' => r = w ∧ EP X pins σ Q r s') pl (by omega) (by omega) (by rw [List.size_toArray, ← hl]; exact h1) (by simpa using ew) ⟨rfl, fin⟩) hs
theorem mapSeq_set (its : List Value) (n j : Nat) (u : Value) : Obj.mapSeq (·.setIfInBounds j u) { cls := .type "list", data := .seq its.toArray n } = { cls := .type "list", data := .seq (its.set j u).toArray n } := by
  simp [Obj.mapSeq]
theorem Inv.lst {pins : List (Addr × Obj)} {σ : St} {H : Hp} {s : Shared} {p : Addr} {xs : List V} (I : Inv X pins σ H s) (h : H p = some (.lst xs)) :
    ∃ (its : List Value) (n : Nat), Vals xs its ∧ s.heap.get? p = some { cls := .type "list", data := .seq its.toArray n } ∧ xs.length ≤ sizeLine := by
  obtain ⟨z, its, n, r, e⟩ := I.hok p _ h
  exact ⟨its, n, r, e, z⟩
theorem Inv.lstUpd {pins : List (Addr × Obj)} {σ : St} {H : Hp} {s : Shared} {p : Addr} {xs ys : List V} {its its' : List Value} {n n' : Nat} {f : Obj → Obj} (I : Inv X pins σ H s) (h : H p = some (.lst xs))
    (ho : s.heap.get? p = some { cls := .type "list", data := .seq its.toArray n }) (hf : f { cls := .type "list", data := .seq its.toArray n } = { cls := .type "list", data := .seq its'.toArray n' }) (r : Vals ys its') (hz : ys.length ≤ sizeLine) (t : Nat) :
    Inv X pins σ (upd H p (.lst ys)) { s with heap := s.heap.update p f, toks := t } := by
  have e : (s.heap.update p f).get? p = some { cls := .type "list", data := .seq its'.toArray n' } := by
    rw [Heap.get?_update_self f ho (by rw [hf] <;> rfl), hf]
  refine I.write (x := p) (e := p) (by rw [h]; trivial) (.inl rfl) (fun b u hb q => (Heap.get?_update_other _ _ (Ne.symm hb)).trans q) ⟨_, e⟩ ?_
  exact ⟨hz, its', n', r, e⟩
def rSetL : V → V → V → Hp → (Hp → Prop) → Prop := fun o i v H Q => ∃ p xs k j, o = .ref p ∧ i = .int k ∧ H p = some (.lst xs) ∧ ixN xs.length k = some j ∧ Q (upd H p (.lst (xs.set j v)))
theorem set_list : PSet X rSetL := by
  intro pins s σ H o i v ov iv u Q I ro ri rv h
  obtain ⟨p, xs, k, j, rfl, rfl, hp, hj, q⟩ := h
  cases ro
  obtain ⟨t, rfl⟩ := ri
  obtain ⟨its, n, r, ho, hz⟩ := I.lst hp
  obtain ⟨h1, h2, h3, h4⟩ := ixN_seq hj
  have hl := r.length
  have hn := line63
  have I' : Inv X pins σ (upd H p (.lst (xs.set j v))) { s with heap := s.heap.update p (Obj.mapSeq (·.setIfInBounds j u)) } :=
    I.lstUpd hp ho (mapSeq_set its n j u) (r.set rv j) (by rw [List.length_set]; exact hz) s.toks
  by_cases h0 : 0 ≤ k
  · have hk : k.toNat = j := by
      rw [seqIndex_of h0 h4] at h1
      exact Option.some.inj h1
    exact PySem.W.ki_setAt ho h0 (by omega) (by rw [List.size_toArray, ← hl]; exact h4) (by rw [hk]; exact ⟨_, I', q⟩)
  · have hk : (k + (its.toArray.size : Int)).toNat = j := by
      rw [seqIndex_neg (by omega) h3] at h1
      rw [List.size_toArray, ← hl]
      exact Option.some.inj h1
    exact PySem.W.ki_setBack ho (by omega) (by rw [List.size_toArray, ← hl]; exact h3) (by omega) (by rw [hk]; exact ⟨_, I', q⟩)
theorem slice_bounds (lo hi : Option Int) (n : Nat) : (sliceBounds lo hi none n).1 = ((HT.sIx n 0 lo : Nat) : Int) ∧ (sliceBounds lo hi none n).2.1 = ((HT.sIx n n hi : Nat) : Int) ∧ (sliceBounds lo hi none n).2.2 = 1 := by
  refine ⟨?_, ?_, rfl⟩
  · cases lo with
    | none => simp [sliceBounds, HT.sIx]
    | some i =>
      simp only [sliceBounds, HT.sIx, Option.getD_none, show (1 : Int) > 0 by decide, if_true]
      by_cases h : i < 0
      · simp only [h, if_true] <;> omega
      · simp only [h, if_false] <;> omega
  · cases hi with
    | none => simp [sliceBounds, HT.sIx]
    | some i =>
      simp only [sliceBounds, HT.sIx, Option.getD_none, show (1 : Int) > 0 by decide, if_true]
      by_cases h : i < 0
      · simp only [h, if_true] <;> omega
      · simp only [h, if_false] <;> omega
theorem slicePick_cut (its : List Value) (lo hi : Option Int) : slicePick its.toArray lo hi none = ((its.drop (HT.sIx its.length 0 lo)).take (HT.sIx its.length its.length hi - HT.sIx its.length 0 lo)).toArray := by
  obtain ⟨h1, h2, h3⟩ := slice_bounds lo hi its.toArray.size
  unfold slicePick
  rw [h1, h2, h3]
  simp only [sliceRange_one, pick_run, List.size_toArray] <;> rfl
def rSlL (K : PySem.W.Frag) : V → Option Int → Option Int → Hp → VK → Prop := fun x lo hi H Q => ∃ a xs, x = .ref a ∧ SqL K H a xs ∧ ∀ p, H p = none → Q (.ref p) (upd H p (.lst (cutV xs lo hi)))
theorem sl_list : SlR X (rSlL X.K) := by
  intro pins s σ H x v vl vu lo hi sl Q I rx hs pl pu h
  obtain ⟨a, xs, rfl, hx, q⟩ := h
  cases rx
  obtain ⟨its, r, ht, hz⟩ := I.list hx
  have hlen := r.length
  refine ⟨"list", _, slot_list_getitem.lookup, ht.isList.typeIs, ?_⟩
  refine wpAny_getItem_list_slice ht.isList hs pl pu .none (by simp) ?_ (by rw [List.size_toArray] <;> omega)
  rw [slicePick_cut, ← hlen]
  refine ⟨.ref s.heap.objs.size, _, I.laid (t' := s.toks) (o := .lst (cutV xs lo hi)) (fun b ob q => Heap.get?_push_of_some _ q) (Nat.le_refl _) ?_, rfl, q _ (I.hok.fresh (Nat.le_refl _))⟩
  exact ⟨Nat.le_trans (cutV_length xs lo hi) hz, _, 0, (r.drop (HT.sIx xs.length 0 lo)).take (HT.sIx xs.length xs.length hi - HT.sIx xs.length 0 lo), Heap.get?_push_size _ rfl⟩
def flatV : V → Bool
  | .non => true
  | .bl _ => true
  | .int _ => true
  | .str _ => true
  | _ => false
def eqV : V → V → Bool
  | .non, .non => true
  | .bl a, .bl b => a == b
  | .bl a, .int b => (if a then 1 else 0) == b
  | .int a, .bl b => a == (if b then 1 else 0)
  | .int a, .int b => a == b
  | .str a, .str b => a == b
  | _, _ => false
theorem eqAt_V {A : Around} {s : Shared} {y x : V} {u v : Value} (ry : RelV y u) (rx : RelV x v) (fy : flatV y = true) (fx : flatV x = true) : SeqAt.EqAt A s u v (eqV y x) := by
  cases y with
  | non =>
    cases ry
    cases x with
    | non => cases rx; exact SeqAt.EqAt.same _
    | bl b => cases rx; exact SeqAt.EqAt.none_bool b
    | int b => obtain ⟨t, rfl⟩ := rx; exact SeqAt.EqAt.none_int b t
    | str b => obtain ⟨t, rfl⟩ := rx; exact SeqAt.EqAt.none_str b t
    | _ => exact absurd (show false = true from fx) Bool.false_ne_true
  | bl a =>
    cases ry
    cases x with
    | non => cases rx; exact SeqAt.EqAt.bool_none a
    | bl b => cases rx; exact SeqAt.EqAt.bool_bool a b
    | int b => obtain ⟨t, rfl⟩ := rx; exact SeqAt.EqAt.bool_int a b t
    | str b => obtain ⟨t, rfl⟩ := rx; exact SeqAt.EqAt.bool_str a b t
    | _ => exact absurd (show false = true from fx) Bool.false_ne_true
  | int a =>
    obtain ⟨t', rfl⟩ := ry
    cases x with
    | non => cases rx; exact SeqAt.EqAt.int_none a t'
    | bl b => cases rx; exact SeqAt.EqAt.int_bool a t' b
    | int b => obtain ⟨t, rfl⟩ := rx; exact SeqAt.EqAt.int_int a t' b t
    | str b => obtain ⟨t, rfl⟩ := rx; exact SeqAt.EqAt.int_str a t' b t
    | _ => exact absurd (show false = true from fx) Bool.false_ne_true
  | str a =>
    obtain ⟨t', rfl⟩ := ry
    cases x with
    | non => cases rx; exact SeqAt.EqAt.str_none a t'
    | bl b => cases rx; exact SeqAt.EqAt.str_bool a t' b
    | int b => obtain ⟨t, rfl⟩ := rx; exact SeqAt.EqAt.str_int a t' b t
    | str b => obtain ⟨t, rfl⟩ := rx; exact SeqAt.EqAt.str_str a t' b t
    | _ => exact absurd (show false = true from fx) Bool.false_ne_true
  | _ => exact absurd (show false = true from fy) Bool.false_ne_true
def eqU (x : V) (u : Value) : Bool := match u with
  | .none => eqV .non x
  | .bool b => eqV (.bl b) x
  | .int i _ => eqV (.int i) x
  | .str z _ => eqV (.str z) x
  | _ => false
theorem eqU_of {x y : V} {u : Value} (r : RelV y u) (f : flatV y = true) : eqU x u = eqV y x := by
  cases y with
  | non => cases r; rfl
  | bl b => cases r; rfl
  | int i => obtain ⟨t, rfl⟩ := r; rfl
  | str z => obtain ⟨t, rfl⟩ := r; rfl
  | _ => exact absurd (show false = true from f) Bool.false_ne_true
theorem any_eqU {x : V} : ∀ {xs : List V} {us : List Value}, Vals xs us → xs.all flatV = true → us.any (eqU x) = xs.any fun y => eqV y x
  | _, _, .nil, _ => rfl
  | y :: xs, u :: us, .cons r t, f => by
    rw [List.all_cons, Bool.and_eq_true] at f
    rw [List.any_cons, List.any_cons, eqU_of r f.1, any_eqU t f.2]
theorem mem_eqAt {A : Around} {s : Shared} {x : V} {v : Value} (rx : RelV x v) (fx : flatV x = true) : ∀ {xs : List V} {us : List Value}, Vals xs us → xs.all flatV = true → ∀ u ∈ us, SeqAt.EqAt A s u v (eqU x u)
  | _, _, .nil, _ => fun u hu => by cases hu
  | y :: xs, u :: us, .cons r t, f => fun u' hu => by
    rw [List.all_cons, Bool.and_eq_true] at f
    rcases List.mem_cons.mp hu with rfl | hu
    · rw [eqU_of r f.1]; exact eqAt_V r rx f.1 fx
    · exact mem_eqAt rx fx t f.2 u' hu
def inV (x : V) (xs : List V) : Bool := xs.any fun y => eqV y x
def rIn (K : PySem.W.Frag) (neg : Bool) : R2 := fun x y H Q => ∃ p xs, y = .ref p ∧ (SqL K H p xs ∨ SqT K H p xs) ∧ flatV x = true ∧ xs.all flatV = true ∧ Q (.bl (if neg then !inV x xs else inV x xs)) H
theorem op_in_seq : OpR X (compareOp .In) (rIn X.K false) := by
  intro pins s σ H x y v u Q I rx ry h
  obtain ⟨p, xs, rfl, hq, fx, fs, q⟩ := h
  cases ry
  rcases hq with hq | hq
  · obtain ⟨its, r, pl, hz⟩ := I.list hq
    refine SeqAt.in_listAt (eqU x) pl.isList (fun w hw => mem_eqAt rx fx r fs w (by simpa using hw)) ⟨.bl _, H, I, rfl, ?_⟩
    rw [show its.toArray.any (eqU x) = its.any (eqU x) by simp, any_eqU r fs]
    exact q
  · obtain ⟨its, r, pl, hz⟩ := I.tuple hq
    refine SeqAt.in_tupleAt (eqU x) pl (fun w hw => mem_eqAt rx fx r fs w (by simpa using hw)) ⟨.bl _, H, I, rfl, ?_⟩
    rw [show its.toArray.any (eqU x) = its.any (eqU x) by simp, any_eqU r fs]
    exact q
theorem op_notIn_seq : OpR X (compareOp .NotIn) (rIn X.K true) := by
  intro pins s σ H x y v u Q I rx ry h
  obtain ⟨p, xs, rfl, hq, fx, fs, q⟩ := h
  cases ry
  rcases hq with hq | hq
  · obtain ⟨its, r, pl, hz⟩ := I.list hq
    refine SeqAt.notIn_listAt (eqU x) pl.isList (fun w hw => mem_eqAt rx fx r fs w (by simpa using hw)) ⟨.bl _, H, I, rfl, ?_⟩
    rw [show its.toArray.any (eqU x) = its.any (eqU x) by simp, any_eqU r fs]
    exact q
  · obtain ⟨its, r, pl, hz⟩ := I.tuple hq
    refine SeqAt.notIn_tupleAt (eqU x) pl (fun w hw => mem_eqAt rx fx r fs w (by simpa using hw)) ⟨.bl _, H, I, rfl, ?_⟩
    rw [show its.toArray.any (eqU x) = its.any (eqU x) by simp, any_eqU r fs]
    exact q
theorem call_len_seq : CallR X (.builtin "len") (fun xs H Q => ∃ p ys, xs = [.ref p] ∧ (SqL X.K H p ys ∨ SqT X.K H p ys) ∧ Q (.int ys.length) H) := by
  intro pins s σ H xs us Q I r h
  obtain ⟨p, ys, rfl, hq, q⟩ := h
  obtain ⟨u, rfl, rx⟩ := vals1 r
  cases rx
  have hn := line63
  rcases hq with hq | hq
  · obtain ⟨its, r', pl, hz⟩ := I.list hq
    have hlen := r'.length
    exact Calls.call_len_list pl.isList (by simp only [List.size_toArray] <;> omega) ⟨.int ys.length, H, I.tok _, ⟨s.toks + 1, by rw [List.size_toArray, hlen]⟩, q⟩
  · obtain ⟨its, r', pl, hz⟩ := I.tuple hq
    have hlen := r'.length
    exact len_tuple pl (by simp only [List.size_toArray] <;> omega) ⟨.int ys.length, H, I.tok _, ⟨s.toks + 1, by rw [List.size_toArray, hlen]⟩, q⟩
theorem call_tuple_of : CallR X (.type "tuple") (fun xs H Q => ∃ p ys, xs = [.ref p] ∧ ((SqL X.K H p ys ∧ ∀ l, H l = none → Q (.ref l) (upd H l (.tup ys))) ∨ (SqT X.K H p ys ∧ Q (.ref p) H))) := by
  intro pins s σ H xs us Q I r h
  obtain ⟨p, ys, rfl, h⟩ := h
  obtain ⟨u, rfl, rx⟩ := vals1 r
  cases rx
  rcases h with ⟨hq, q⟩ | ⟨hq, q⟩
  · obtain ⟨its, r', pl, hz⟩ := I.list hq
    have hlen := r'.length
    refine call_tuple_list pl.isList (fun h' kp => ?_) (by simp only [List.size_toArray] <;> omega)
    have I1 : Inv X pins σ H { s with heap := h' } := I.kept (t' := s.toks) kp
    have I2 : Inv X pins σ (upd H h'.objs.size (.tup ys)) { s with heap := h'.push { cls := .type "tuple", data := .seq its.toArray } } :=
      I1.laid (t' := s.toks) (fun b o e => Heap.get?_push_of_some _ e) (Nat.le_refl _) (show ObjOk X.prog X.w _ _ _ (.tup ys) from ⟨hz, its, r', TupX.new _ _⟩)
    exact ⟨.ref h'.objs.size, _, I2, rfl, q _ (I1.hok.fresh (Nat.le_refl _))⟩
  · obtain ⟨its, r', pl, hz⟩ := I.tuple hq
    exact call_tuple_same pl ⟨.ref p, H, I, rfl, q⟩
def tyV (K : PySem.W.Frag) (T : String) (x : V) (H : Hp) : Prop := match x with
  | .str _ => T = "str"
  | .int _ => T = "int"
  | .ref p => (T = "list" ∧ ∃ xs, SqL K H p xs) ∨ (T = "tuple" ∧ ∃ o, K.lookup p = some o ∧ o.cls = .type "tuple" ∧ o.dict = none) ∨
      (T = "dict" ∧ ((∃ kvs, H p = some (.dK kvs)) ∨ ∃ kvs, H p = some (.dT kvs))) ∨ (T = "set" ∧ ∃ S n, H p = some (.set S n))
  | _ => False
theorem tyV_is {pins : List (Addr × Obj)} {σ : St} {H : Hp} {s : Shared} {T : String} {x : V} {v : Value} (I : Inv X pins σ H s) (r : RelV x v) (ty : tyV X.K T x H) :
    s.TypeIs v T ∧ ∀ a, v = .ref a → ∃ ob, s.heap.get? a = some ob ∧ ob.dict = none := by
  cases x with
  | str z =>
    obtain ⟨t, rfl⟩ := r
    cases (show T = "str" from ty)
    exact ⟨typeIs_str s z t, fun _ e => nomatch e⟩
  | int i =>
    obtain ⟨t, rfl⟩ := r
    cases (show T = "int" from ty)
    exact ⟨typeIs_int s i t, fun _ e => nomatch e⟩
  | ref p =>
    cases r
    rcases ty with ⟨rfl, xs, hq⟩ | ⟨rfl, o, hk, hc, hd⟩ | ⟨rfl, hk⟩ | ⟨rfl, S, n, hk⟩
    · obtain ⟨its, _, pl, _⟩ := I.list hq
      refine ⟨pl.isList.typeIs, fun a e => ?_⟩
      cases e
      obtain ⟨o, n, e, c, hd, _⟩ := pl
      exact ⟨o, e, hd⟩
    · refine ⟨⟨o, I.kIn p o hk, hc⟩, fun a e => ?_⟩
      cases e
      exact ⟨o, I.kIn _ o hk, hd⟩
    · have z : ∃ o, s.heap.get? p = some o ∧ o.ExactDict := by
        rcases hk with ⟨kvs, hk⟩ | ⟨kvs, hk⟩
        · obtain ⟨_, _, _, _, o, _, _, e, ex, _⟩ := I.hok p _ hk
          exact ⟨o, e, ex⟩
        · obtain ⟨_, _, _, _, o, _, _, e, ex, _⟩ := I.hok p _ hk
          exact ⟨o, e, ex⟩
      obtain ⟨o, e, ex⟩ := z
      refine ⟨⟨o, e, ex.1⟩, fun a e2 => ?_⟩
      cases e2
      exact ⟨o, e, ex.2.1⟩
    · obtain ⟨o, _, _, _, e, ex, _⟩ := I.hok p _ hk
      refine ⟨⟨o, e, ex.1⟩, fun a e2 => ?_⟩
      cases e2
      exact ⟨o, e, ex.2.1⟩
  | _ => exact False.elim ty
def tBM (K : PySem.W.Frag) (T : String) (r : V → List V → Hp → VK → Prop) (to : TE) (t : TA) : TE := fun σ H Q => to σ H fun x H1 => tyV K T x H1 ∧ t σ H1 fun xs H2 => r x xs H2 Q
variable {o e : Expr} {es : List Expr} {to : TE} {t : TA} {name : Str} {apos cpos : Pos} {T id : String} {r : V → List V → Hp → VK → Prop}
theorem pe_bm (pa : PlainAttrs T) (slot : Slot T name id) (hty : typeOf (.builtin id) = pure (.type "method_descriptor")) (hm : MtR X id r) (ho : PE X o to) (ha : PA X (e :: es) t)
    (hbase : attributeBase o name X.env (eval o X.env) = eval o X.env := by rfl)
    (hfew : ((backTo cpos (starEach (e :: es) X.env)).all (fun x => !x.1) && (backToKw cpos (keywordEach [] X.env)).all (fun x => x.1.isSome)
      && decide ((e :: es).length + ([] : List Keyword).length + (if ([] : List Keyword).isEmpty then 0 else 1) < 30)) = true := by rfl)
    (hline : (apos.endLine == cpos.line) = true := by rfl) (hs : starEach (e :: es) X.env = (false, eval e X.env) :: starEach es X.env := by rfl) (hplain : (backTo cpos (starEach es X.env)).any (·.1) = false := by rfl) :
    PE X (.Call (.Attribute o name apos) (e :: es) [] cpos) (tBM X.K T r to t) := by
  intro pins s σ H Q I h
  refine wpAny_Call_method_late hbase hfew hline rfl (thn (ho pins s σ H _ I h) fun v s1 ⟨x, H1, I1, r1, ty, q1⟩ => ?_)
  obtain ⟨h1, h2⟩ := tyV_is I1 r1 ty
  refine ⟨T, id, pa, slot, hty, h1, h2, ?_⟩
  have hA := ha cpos pins s1 σ H1 _ I1 q1
  rw [hs] at hA ⊢
  refine Calls.callWith_builtin (by show (false || (backTo cpos (starEach es X.env)).any (·.1)) = false; rw [hplain] <;> rfl) (Calls.evalArgs_plain ?_)
  exact thn hA fun us s2 ⟨vs, H2, I2, r2, q2⟩ => hm pins s2 σ H2 x vs v us Q I2 r1 r2 q2
/- xs.append(e), list.index on a module's tuple .. are MtR facts of 06m -/
end
end L2

namespace L2
open PySem PySem.Spec PyProof.Rows

def MtM (X : Cx) (id : String) (r : V → List V → Hp → VK → Prop) : Prop :=
  ∀ (pins : List (Addr × Obj)) (s : Shared) (σ : St) (H : Hp) (x : V) (xs : List V) (v : Value) (us : List Value) (Q : VK), Inv X pins σ H s → RelV x v → Vals xs us → r x xs H Q →
    wpAny (model X.prog X.w) X.A (call (.builtin id) (v :: us)) (EP X pins σ Q) X.xe s
theorem Vals.one : ∀ {x : V} {us : List Value}, Vals [x] us → ∃ u, us = [u] ∧ RelV x u
  | _, _, .cons r .nil => ⟨_, rfl, r⟩
theorem Vals.two : ∀ {x y : V} {us : List Value}, Vals [x, y] us → ∃ u v, us = [u, v] ∧ RelV x u ∧ RelV y v
  | _, _, _, .cons r (.cons q .nil) => ⟨_, _, rfl, r, q⟩
theorem Vals.eraseIdx : ∀ {xs : List V} {us : List Value} (i : Nat), Vals xs us → Vals (xs.eraseIdx i) (us.eraseIdx i)
  | _, _, _, .nil => .nil
  | _, _, 0, .cons _ t => t
  | _, _, i + 1, .cons r t => .cons r (Vals.eraseIdx i t)
theorem Vals.rep {xs : List V} {us : List Value} (h : Vals xs us) : ∀ k : Nat, Vals (List.replicate k xs).flatten (List.replicate k us).flatten
  | 0 => .nil
  | k + 1 => by
    rw [List.replicate_succ, List.replicate_succ, List.flatten_cons, List.flatten_cons]
    exact Vals.append h (Vals.rep h k)
theorem len_erase {α : Type} : ∀ (l : List α) (i : Nat), (l.eraseIdx i).length ≤ l.length
  | [], _ => Nat.le_refl _
  | _ :: _, 0 => Nat.le_succ _
  | _ :: r, i + 1 => Nat.succ_le_succ (len_erase r i)
theorem foldl_rep (its : List Value) : ∀ (k : Nat) (acc : List Value),
    List.foldl (fun x1 x2 => x1 ++ x2) acc.toArray (List.replicate k its.toArray) = (acc ++ (List.replicate k its).flatten).toArray
  | 0, acc => by simp
  | k + 1, acc => by
    have e : acc.toArray ++ its.toArray = (acc ++ its).toArray := by simp
    have e2 : (acc ++ its) ++ (List.replicate k its).flatten = acc ++ (List.replicate (k + 1) its).flatten := by
      rw [List.replicate_succ, List.flatten_cons, List.append_assoc]
    rw [← e2, ← foldl_rep its k (acc ++ its), ← e, List.replicate_succ, List.foldl_cons]

section
variable {X : Cx} {pins : List (Addr × Obj)} {σ : St} {H : Hp} {s : Shared} {l b : Addr} {xs ys zs : List V}
theorem Inv.lset {its its' : List Value} {n : Nat} {f : Array Value → Array Value} {t' : Nat} (I : Inv X pins σ H s) (hH : H l = some (.lst xs))
    (e : s.heap.get? l = some { cls := .type "list", data := .seq its.toArray n }) (hf : f its.toArray = its'.toArray) (hv : Vals ys its') (hz : ys.length ≤ sizeLine) :
    Inv X pins σ (upd H l (.lst ys)) { s with heap := s.heap.update l (Obj.mapSeq f), toks := t' } := by
  have q := PySem.IsL.update e f
  rw [hf] at q
  refine I.write (x := l) (e := l) (by rw [hH]; exact trivial) (.inl rfl) (fun b' u hb hu => (Heap.get?_update_other s.heap (Obj.mapSeq f) (Ne.symm hb)).trans hu) ⟨_, q⟩ ?_
  exact ⟨hz, its', _, hv, q⟩
theorem Inv.lnew {its : List Value} {t' : Nat} (I : Inv X pins σ H s) (hv : Vals ys its) (hz : ys.length ≤ sizeLine) :
    Inv X pins σ (upd H s.heap.objs.size (.lst ys)) { s with heap := s.heap.push { cls := .type "list", data := .seq its.toArray }, toks := t' } :=
  I.laid (fun _ _ q => Heap.get?_push_of_some _ q) (Nat.le_refl _) ⟨hz, its, 0, hv, Heap.get?_push_size _ rfl⟩
theorem Inv.fresh (I : Inv X pins σ H s) : H s.heap.objs.size = none := I.hok.fresh (Nat.le_refl _)
theorem Inv.lstM (I : Inv X pins σ H s) (hH : H l = some (.lst xs)) : xs.length ≤ sizeLine ∧ ∃ (its : List Value) (n : Nat), Vals xs its ∧ xs.length = its.length ∧ s.heap.get? l = some { cls := .type "list", data := .seq its.toArray n } := by
  obtain ⟨z, its, n, r, e⟩ := I.hok l _ hH
  exact ⟨z, its, n, r, r.length, e⟩

theorem notLongL {n : Nat} (h : n ≤ sizeLine) : Builtin.List.listTooLong n = false := by
  unfold Builtin.List.listTooLong
  exact decide_eq_false (by omega)
end

section
variable {X : Cx}
def rAppend : V → List V → Hp → VK → Prop := fun x vs H Q => ∃ l xs y, x = .ref l ∧ vs = [y] ∧ H l = some (.lst xs) ∧ xs.length < sizeLine ∧ Q .non (upd H l (.lst (xs ++ [y])))
theorem mt_append : MtM X "list.append" rAppend := by
  intro pins s σ H x vs v us Q I rx rv h
  obtain ⟨l, xs, y, rfl, rfl, hH, hz, q⟩ := h
  cases rx
  obtain ⟨u, rfl, ru⟩ := rv.one
  obtain ⟨z, its, n, r, hl, e⟩ := I.lstM hH
  refine call_meets F.slot_list_append ⟨_, e, rfl⟩ F.entry_list_append (F.args_list_append_2 _ _) (PySem.list_append l its.toArray n u (by rw [List.size_toArray]; omega)) ⟨e, ?_⟩
  refine ⟨.non, _, I.lset (its' := its ++ [u]) hH e (by simp) (r.append (.cons ru .nil)) ?_, rfl, q⟩
  rw [List.length_append, List.length_singleton]
  omega

def rPopAt : V → List V → Hp → VK → Prop := fun x vs H Q => ∃ l xs i k y, x = .ref l ∧ vs = [.int i] ∧ H l = some (.lst xs) ∧ -(2 ^ 63) ≤ i ∧ i < 2 ^ 63 ∧ seqIndex? i xs.length = some k ∧ xs[k]? = some y ∧ Q y (upd H l (.lst (xs.eraseIdx k)))
theorem mt_popAt : MtM X "list.pop" rPopAt := by
  intro pins s σ H x vs v us Q I rx rv h
  obtain ⟨l, xs, i, k, y, rfl, rfl, hH, h1, h2, hk, hy, q⟩ := h
  cases rx
  obtain ⟨u, rfl, ru⟩ := rv.one
  obtain ⟨t, rfl⟩ := ru
  obtain ⟨z, its, n, r, hl, e⟩ := I.lstM hH
  obtain ⟨w, hw, rw'⟩ := r.get hy
  refine call_meets F.slot_list_pop ⟨_, e, rfl⟩ F.entry_list_pop (F.args_list_pop_2 _ _)
    (MeetsSeq.list_pop_at l its.toArray n i t k w (fitsIndex_both h1 h2) (by rw [List.size_toArray, ← hl]; exact hk) (by rw [← Array.getElem?_toList]; exact hw) (by rw [List.size_toArray]; omega)) ⟨e, ?_⟩
  refine ⟨y, _, I.lset (its' := its.eraseIdx k) hH e ?_ (r.eraseIdx k) ?_, rw', q⟩
  · show its.toArray.eraseIdxIfInBounds k = (its.eraseIdx k).toArray
    rw [List.eraseIdxIfInBounds_toArray]
  · have := len_erase xs k
    omega
def rCat : R2 := fun x y H Q => ∃ l b xs zs, x = .ref l ∧ y = .ref b ∧ H l = some (.lst xs) ∧ H b = some (.lst zs) ∧ xs.length + zs.length ≤ sizeLine ∧ ∀ p, H p = none → Q (.ref p) (upd H p (.lst (xs ++ zs)))
theorem op_cat : OpR X (binaryOp .Add) rCat := by
  intro pins s σ H x y v u Q I rx ry h
  obtain ⟨l, b, xs, zs, rfl, rfl, hH, hB, hz, q⟩ := h
  cases rx
  cases ry
  obtain ⟨z, its, n, r, hl, e⟩ := I.lstM hH
  obtain ⟨z2, its2, n2, r2, hl2, e2⟩ := I.lstM hB
  refine PySem.P.add_list e e2 ?_ (by rw [List.size_toArray, List.size_toArray]; omega)
  have ea : its.toArray ++ its2.toArray = (its ++ its2).toArray := by simp
  rw [ea]
  exact ⟨.ref _, _, I.lnew (t' := s.toks) (r.append r2) (by rw [List.length_append]; omega), rfl, q _ I.fresh⟩
def rRep : R2 := fun x y H Q => ∃ l k xs, x = .ref l ∧ y = .int k ∧ H l = some (.lst xs) ∧ -(2 ^ 63) ≤ k ∧ k < 2 ^ 63 ∧ xs.length * k.toNat ≤ sizeLine ∧
  ∀ p, H p = none → Q (.ref p) (upd H p (.lst (List.replicate k.toNat xs).flatten))
theorem len_rep {α : Type} (xs : List α) (k : Nat) : (List.replicate k xs).flatten.length = k * xs.length := by
  induction k with
  | zero => simp
  | succ k ih => rw [List.replicate_succ, List.flatten_cons, List.length_append, ih, Nat.succ_mul, Nat.add_comm]
theorem op_rep : OpR X (binaryOp .Mult) rRep := by
  intro pins s σ H x y v u Q I rx ry h
  obtain ⟨l, k, xs, rfl, rfl, hH, h1, h2, hz, q⟩ := h
  cases rx
  obtain ⟨t, rfl⟩ := ry
  obtain ⟨z, its, n, r, hl, e⟩ := I.lstM hH
  have hlen : its.toArray.size * k.toNat ≤ sizeLine := by rw [List.size_toArray, ← hl]; exact hz
  have hcap : ¬ its.toArray.size * k.toNat > (2 ^ 63 - 1) / 8 := by
    have : (sizeLine : Nat) ≤ (2 ^ 63 - 1) / 8 := by decide
    omega
  have hfit : ¬ (!Builtin.List.listFitsIndex k) = true := by
    rw [fitsIndex_both h1 h2]
    exact Bool.false_ne_true
  have hlong : ¬ Builtin.List.listTooLong (its.toArray.size * k.toNat) = true := by
    rw [notLongL hlen]
    exact Bool.false_ne_true
  have hnew : List.foldl (fun x1 x2 => x1 ++ x2) #[] (List.replicate (if its.toArray.isEmpty = true then 0 else k.toNat) its.toArray) = (List.replicate k.toNat its).flatten.toArray := by
    have f0 : ∀ m : Nat, List.foldl (fun x1 x2 => x1 ++ x2) #[] (List.replicate m its.toArray) = (List.replicate m its).flatten.toArray := fun m => by
      have := foldl_rep its m []
      rw [List.nil_append] at this
      exact this
    rw [f0]
    cases its with
    | nil => simp
    | cons a r' => rw [if_neg (by simp)]
  refine wpAny_binaryOp_repeat_ref (T := "list") (U := "int") (by decide) ⟨_, e, rfl⟩ (fun s' => typeIs_int s' k t) noFill_list_mul F.fills_int_mul F.slot_int_rmul repeat_list F.slot_int_index.lookup
    (call_meets F.slot_int_rmul (typeIs_int s k t) F.entry_int_rmul (F.args_int_rmul_2 _ _) (int___rmul___int_list k t l its.toArray n)
      ⟨e, rfl, ⟨_, e, rfl⟩, call_meets F.slot_list_mul ⟨_, e, rfl⟩ F.entry_list_mul (F.args_list_mul_2 _ _) (AutoListH.list___mul___list_int_3 l its.toArray n k t hfit hcap hlong) ⟨e, ?_⟩⟩)
  rw [hnew]
  exact ⟨.ref _, _, I.lnew (t' := s.toks) (r.rep k.toNat) (by rw [len_rep, Nat.mul_comm]; exact hz), rfl, q _ I.fresh⟩
end
section
variable {prog : Program} {w : World} {A : Around} {E : Value → Shared → Prop} {s : Shared}
end

section
variable {X : Cx}
end
end L2

namespace Att
open PySem PySem.W PySem.Calls PyProof.Rows
theorem ints_of_wellAll {P : Params} {h : Heap} : ∀ (ns : List Int) (vs : List Value), WellAll P h vs (ns.map WData.int) → IntsAre vs ns := by
  intro ns
  induction ns with
  | nil =>
    intro vs w
    rw [List.map_nil] at w
    cases w
    exact .nil
  | cons n ns ih =>
    intro vs w
    rw [List.map_cons] at w
    cases w with
    | cons a b =>
      cases a
      exact .cons _ _ (ih _ b)

theorem script_of {l : OpenLaw} {n : Nat} (hn : l.most = some n) {P : Params} {h : Heap} {args : List WData} {vals : List Value}
    (hpre : l.row.toRowW.claim.pre args = true) (hwl : WellAll P h vals args) :
    ∃ a vs ns, vals = [Value.ref a] ∧ args = [WData.list (ns.map WData.int)] ∧ h.get? a = some { cls := .type "list", data := .seq vs.toArray } ∧ IntsAre vs ns ∧ ns.length ≤ n := by
  have hsh : WShape.hasAll [] args [.list .int] = true := (pre_splitW hpre).1
  have hc : l.pre.holds [] { args := args } = true := (pre_splitW hpre).2
  obtain ⟨d, r, rfl, h1, h2⟩ := hasAllW_cons hsh
  obtain rfl := hasAllW_nil h2
  obtain ⟨xs, rfl, h3⟩ := hasW_list h1
  obtain ⟨ns, rfl⟩ := items_int h3
  have hlen : ns.length ≤ n := by
    unfold OpenLaw.pre at hc
    have h4 : (WTm.not (.lt (.lit (.int (n : Int))) (.len (.arg 0)))).holds [] { args := [.list (ns.map .int)] } = true := by
      have h4 := (holds_andW hc).1
      rw [hn] at h4
      exact h4
    have h5 := condW_of h4 (w_not (w_lt w_lit (w_len_list (w_arg rfl))))
    rw [List.length_map] at h5
    refine Nat.le_of_not_lt fun q => ?_
    have q' : (n : Int) < ((ns.length : Nat) : Int) := by omega
    first
      | (rw [decide_eq_true q'] at h5; exact absurd h5 (by decide))
      | (simp at h5; omega)
  cases hwl with
  | cons w1 w2 =>
    cases w2
    cases w1 with
    | list ho hall => exact ⟨_, _, ns, rfl, rfl, ho, ints_of_wellAll ns _ hall, hlen⟩

theorem post_true (l : OpenLaw) (args : List WData) : l.row.toRowW.claim.post args (.bool true) args = true :=
  postW_of (r := l.row.toRowW) (X := (true == true))
    (show WShape.has [] (.bool true) .bool = true by first | rfl | decide | simp [WShape.has, WShape.arms, WShape.armsAll])
    (show (WTm.eq .res (.lit (.bool true))).value [] { args := args, res := some (.bool true), after := args } = some (.bool (true == true)) from w_eq_bool (w_res rfl) w_lit) rfl
theorem attach_call {l : OpenLaw} {n : Nat} {q : Program} {loose : List Str} {XP : (Str → Option Value) → Heap → Prop} {YP : World → Heap → Prop} {d : DefRec}
    (hn : l.most = some n) (hdf : d.params.defaults = [])
    (call : ∀ (w : World) (s₀ s₁ : Shared) (mg mb : Str → Option Value) (fa : Addr) (o : Obj) (pm cd doc : Value) (a : Addr) (vs : List Value) (ns : List Int),
      Ground q loose [] XP w s₀ mg mb s₁.heap → YP w s₁.heap →
      s₁.heap.get? fa = some o → o.data = .func (docDef d.name d.params d.body d.scope pm cd doc) → s₁.heap.CodeRec cd d.name → mg d.name = some (.ref fa) →
      s₁.heap.get? a = some { cls := .type "list", data := .seq vs.toArray } → IntsAre vs ns → ns.length ≤ n → s₁.gens = #[] →
      codeAny (model l.prog w) callerA (.call (.ref fa) ⟨[.ref a], []⟩) (fun r s' => r = .ok (.ret (.bool true)) ∧ OldK s₁.heap s'.heap ∧ s'.os = s₁.os ∧ AllBare s'.gens) s₁) :
    WalkO q loose XP YP l.row.toRowW d [] (fun f vs => PySem.call f vs) := by
  intro w s₀ s₁ mg mb G Y fa o pm cd doc dV kV ho hd hcd hD hmg hg args vals as hpre hlay hrd hwl hlo
  obtain rfl : dV = .none := Dflts.none hD hdf
  obtain rfl : kV = .none := Dflts.noKw hD
  obtain ⟨a, vs, ns, rfl, rfl, hobj, hints, hlen⟩ := script_of hn hpre hwl
  refine enter_call (codeAny_mono (call w s₀ s₁ mg mb fa o pm cd doc a vs ns G Y ho (fd_plain hd) hcd hmg hobj hints hlen hg) fun r s' hq => ?_)
  obtain ⟨rfl, h2, h3, h4⟩ := hq
  exact ⟨.inl ⟨.bool true, .bool true, [], rfl, fun _ => rfl, .bool true, post_true l _, fun _ => ⟨List.Pairwise.nil, fun _ hm => (nomatch hm)⟩⟩, h2, h3, h4⟩
section
variable {prog : Program} {w : World} {A : Around} {E : Value → Shared → Prop} {s : Shared} {K : Frag}
def ledger (h : Heap) (L d : Addr) : List (Addr × Obj) := (List.range h.objs.size).filterMap fun a => if a = L ∨ a = d then none else (h.get? a).map fun o => (a, o)
end
end Att

namespace L2
open PySem PySem.Spec PyProof.Rows

theorem vals_ints : ∀ {vs : List Value} {ns : List Int}, IntsAre vs ns → Vals (ns.map V.int) vs
  | _, _, .nil => .nil
  | _, _, .cons n t h => .cons ⟨t, rfl⟩ (vals_ints h)

end L2

namespace L2
open PySem PySem.Spec PyProof.Rows

abbrev KOf {K : PySem.W.Frag} {h : Heap} (_ : K.In h) : PySem.W.Frag := K

end L2

/- THE LAST THEOREM (shape; LID, My.* are yours):
   My.Adr: a structure of the addresses that your layer names (classes, functions); My.Txt K t: a structure (Prop) of the equations over K;
   My.txt_mk : {K} {implicit addresses ..} (e1 : nsIn K mainGlobals "law" = some (some (.ref f))) (e2 : K.lookup f = some ⟨oc, od, .func (fnOf "law" "law" params body scope dV kV doc pm an cdv ct), sl⟩) (e3 : codeIn K cdv "law" = true) .. : ∃ t, My.Txt K t

set_option maxRecDepth 100000 in
set_option maxHeartbeats 0 in
theorem PySem.Challenge.cw_LID_holds : PySem.Challenge.rw_LID.Holds := by
  w_on; o_law; k_head; (case hw => w_witness2)
  k_fill
  refine L2.walk_of (l := PySem.Challenge.rw_LID) (n := 63) (k := 40) (x := "script") (CX := fun w => ..) (sp := fun _ => My.sp_law) rfl (by decide) rfl ⟨rfl, by decide, by decide⟩ (fun w h Y => PySem.W.kIn_of Y) ?F ?S ?C
  case F =>
    intro w mg fa h KX G hmg
    have T : ∃ t, My.Txt (L2.KOf KX) t := by
      dsimp only [L2.KOf]                          -- K must stand as «<heap const> w.params» for k_is
      refine' My.txt_mk ?e1 ?e2 ?e3 ..
      (case e1 => PySem.W.k_is)                    -- in the order: a name -> its address -> its object -> its parts
      (case e2 => PySem.W.k_is)
      ..
    obtain ⟨t, T⟩ := T
    have e0 := hmg.symm.trans (PySem.W.mg_of KX G T.law)
    cases e0                                       -- fa is the law's own address
    exact ⟨_, fun s u => .of_eq rfl, fun base kb nb => My.law_fn T kb nb⟩     -- if «.of_eq rfl» comes too early: refine' ⟨_, ?b, fun base kb nb => My.law_fn T kb nb⟩; exact fun s u => .of_eq rfl
  case S => exact fun w H a ns hl hO hS => ..
  case C => exact ..
(the tactic k_is has no namespace: write k_is) -/
namespace L2
open PySem PySem.Spec PyProof.Rows
def inClass (s : Stmt) (j : Nat) : Stmt := match s with
  | .ClassDef _ _ _ body _ _ _ _ _ _ _ => body.getD j (.Pass ⟨0, 0, 0, 0⟩)
  | _ => .Pass ⟨0, 0, 0, 0⟩
def defArgs (s : Stmt) : Arguments := match s with
  | .FunctionDef _ a _ _ _ _ _ _ _ _ => a
  | _ => { posonlyargs := [], args := [], vararg := none, kwonlyargs := [], kw_defaults := [], kwarg := none, defaults := [] }
def defBody (s : Stmt) : List Stmt := match s with
  | .FunctionDef _ _ b _ _ _ _ _ _ _ => b
  | _ => []
def defScope (s : Stmt) : Scope := match s with
  | .FunctionDef _ _ _ _ _ _ sc _ _ _ => sc
  | _ => { kind := .function, names := [], isGenerator := false, isCoroutine := false }
abbrev CX0 : CXT := fun _ _ _ _ _ _ => False
abbrev E0 : XK := fun _ _ _ => False
theorem pass0 {X : Cx} : Passes CX0 X E0 := fun _ _ _ _ _ _ _ h => h.elim
structure Fun (K : PySem.W.Frag) (x qual : Str) (st : Stmt) (f : Addr) (fd : FuncData) : Prop where
  ex : ∃ (oc : Value) (od : Option Addr) (kV doc pm : Value) (an : Option Addr) (cdv ct : Value) (osl : Array (Option Value)),
    fd = PySem.W.fnOf x qual (defArgs st) (defBody st) (defScope st) .none kV doc pm an cdv ct ∧ K.lookup f = some ⟨oc, od, .func fd, osl⟩ ∧ PySem.W.codeIn K cdv qual = true
  kp : PySem.W.keepIn K (.ref f) = true
section
variable {P : Program} {w : World} {K : PySem.W.Frag} {mg : Str → Option Value} {base : Heap}
theorem Fun.ok {x qual : Str} {st : Stmt} {f : Addr} {fd : FuncData} {N ps : List Str} {k : Nat} {sp : Sp} (F : Fun K x qual st f fd) (S : FnScope N ps (defScope st)) (len : ∀ vs H Q E, sp vs H Q E → vs.length = ps.length)
    (hbody : ∀ (cdv : Value) (A : Around) (outer : List Env) (s : Shared) (H : Hp) (vs : List V) (Q : VK) (E : XK), Room k (A.deeper (envOfC qual (defScope st) s.heap.objs.size f cdv)) → sp vs H Q E →
      ∃ t, PSs (cxOf CX0 P w K mg base N qual (defScope st) f cdv A outer s H E).nox (defBody st) t ∧ t { nx := fun _ H' => Q .non H', rt := Q } (start N vs) H) : FnOk P w K mg base CX0 (k + 1) f fd ps sp := by
  obtain ⟨oc, od, kV, doc, pm, an, cdv, ct, osl, rfl, lk, hcd⟩ := F.ex
  refine fn_of lk hcd S len fun A outer s H vs Q E hr hsp => ?_
  obtain ⟨t, h, q⟩ := hbody cdv A outer s H vs Q E hr hsp
  exact ⟨t, h.nox, q⟩
theorem Fun.binds {x qual : Str} {st : Stmt} {f : Addr} {fd : FuncData} {ps : List Str} (F : Fun K x qual st f fd)
    (h : ∀ (kV doc pm : Value) (an : Option Addr) (cdv ct : Value) (us : List Value), us.length = ps.length → bindArgs (PySem.W.fnOf x qual (defArgs st) (defBody st) (defScope st) .none kV doc pm an cdv ct) ⟨us, []⟩ = pure (ps.zip us)) : Binds K fd ps [] := by
  obtain ⟨oc, od, kV, doc, pm, an, cdv, ct, osl, rfl, lk, hcd⟩ := F.ex
  exact .all (h kV doc pm an cdv ct)
theorem fun_mk {x qual : Str} {st : Stmt} {f : Addr} {oc : Value} {od an : Option Addr} {osl : Array (Option Value)} {kV doc pm cdv ct : Value} (l : K.lookup f = some ⟨oc, od, .func (PySem.W.fnOf x qual (defArgs st) (defBody st) (defScope st) .none kV doc pm an cdv ct), osl⟩)
    (c : PySem.W.codeIn K cdv qual = true) (k : PySem.W.keepIn K (.ref f) = true) : Fun K x qual st f (PySem.W.fnOf x qual (defArgs st) (defBody st) (defScope st) .none kV doc pm an cdv ct) := ⟨⟨oc, od, kV, doc, pm, an, cdv, ct, osl, rfl, l, c⟩, k⟩
end
theorem small1000 {n : Nat} (h : n ≤ 1000) : n < sizeLine := Nat.lt_of_le_of_lt h (by decide)
section
variable {X : Cx}
theorem pv (i : Nat) {x : Str} {pos : Pos} (hN : X.N[i]? = some x := by rfl) (hv : Vis X.env.scope x := by first | exact Or.inl rfl | exact Or.inr (Or.inl rfl) | exact Or.inr (Or.inr rfl)) (hd : (x == ("__debug__" : Str)) = false := by decide)
    (hcd : (x == ("__classdict__" : Str)) = false := by decide) : PE X (.Name x pos) (tVar i) := pe_var hN hv hd hcd
end
theorem iteF {A B : Prop} (h : B) : if false = true then A else B := by
  rw [if_neg Bool.false_ne_true]
  exact h
theorem iteT {A B : Prop} (h : A) : if true = true then A else B := by
  rw [if_pos rfl]
  exact h
theorem ite2 {c A B : Prop} [Decidable c] (h1 : c → A) (h2 : ¬ c → B) : if c then A else B := by
  by_cases h : c
  · rw [if_pos h]
    exact h1 h
  · rw [if_neg h]
    exact h2 h
theorem iteNS {c A B : Prop} [Decidable c] (hc : c) (h : B) : if (!decide c) = true then A else B := by
  rw [decide_eq_true hc]
  exact iteF h
def Same (H H' : Hp) : Prop := ∀ b o, H b = some o → H' b = some o
theorem Same.refl (H : Hp) : Same H H := fun _ _ h => h
theorem Same.trans {H H1 H2 : Hp} (a : Same H H1) (b : Same H1 H2) : Same H H2 := fun c o h => b c o (a c o h)
theorem Same.seq {K : PySem.W.Frag} {H H' : Hp} {a : Addr} {xs : List V} (e : Same H H') (h : SqL K H a xs) : SqL K H' a xs := by
  rcases h with (h | ⟨o, h⟩) | h
  · exact .inl (.inl (e _ _ h))
  · exact .inl (.inr ⟨o, e _ _ h⟩)
  · exact .inr h

end L2
section
set_option maxHeartbeats 4000001
namespace L2
open PySem PySem.Spec PyProof.Rows
def clOf (cells : List (Str × Addr)) : List (Str × NameKind) → List (Str × Addr) → List (Str × Addr)
  | [], cs => cs
  | (n, k) :: r, cs => if k == .free then clOf cells r ((n, (cells.lookup n).getD 0) :: cs) else clOf cells r cs
theorem clOf_run {env : Env} : ∀ (names : List (Str × NameKind)) (cs : List (Str × Addr)), (∀ y ∈ names, y.2 = .free → ∃ c, env.cells.lookup y.1 = some c) →
    (forIn names cs fun x r => match x with | (name, kind) => if (kind == NameKind.free) = true then (do let a ← cellOf env name; pure (ForInStep.yield ((name, a) :: r))) else pure (ForInStep.yield r) : Sem (List (Str × Addr))) = pure (clOf env.cells names cs)
  | [], cs, _ => rfl
  | (n, k) :: r, cs, h => by
    rw [List.forIn_cons]
    by_cases e : (k == NameKind.free) = true
    · obtain ⟨c, hc⟩ := h (n, k) List.mem_cons_self (by simpa using e)
      have hcell : cellOf env n = pure c := by
        have hc' : env.cells.lookup n = some c := hc
        unfold cellOf; rw [hc']
      simp only [e, if_true, hcell, pure_bind]
      rw [clOf_run r _ fun y hy => h y (List.mem_cons_of_mem _ hy)]
      have hc' : env.cells.lookup n = some c := hc
      show _ = pure (if (k == NameKind.free) = true then _ else _)
      rw [if_pos e, hc']
      rfl
    · have ef : (k == NameKind.free) = false := by simpa using e
      simp only [ef, Bool.false_eq_true, if_false, pure_bind]
      rw [clOf_run r _ fun y hy => h y (List.mem_cons_of_mem _ hy)]
      show _ = pure (if (k == NameKind.free) = true then _ else _)
      rw [if_neg e]
theorem closure_eq {scope : Scope} {env : Env} (h : ∀ y ∈ scope.names, y.2 = .free → ∃ c, env.cells.lookup y.1 = some c) : closureFor scope env = pure (clOf env.cells scope.names []) := by
  unfold closureFor
  show (forIn scope.names [] _ >>= fun r => pure r) = _
  rw [bind_pure]
  exact clOf_run _ _ h
theorem clOf_sub {cells : List (Str × Addr)} : ∀ (names : List (Str × NameKind)) (cs : List (Str × Addr)) (x : Str) (c : Addr), (∀ y ∈ names, y.2 = .free → ∃ c, cells.lookup y.1 = some c) →
    (∀ x c, cs.lookup x = some c → cells.lookup x = some c) → (clOf cells names cs).lookup x = some c → cells.lookup x = some c
  | [], cs, x, c, _, hs, e => hs x c e
  | (n, k) :: r, cs, x, c, h, hs, e => by
    unfold clOf at e
    by_cases q : (k == NameKind.free) = true
    · rw [if_pos q] at e
      obtain ⟨c0, hc0⟩ := h (n, k) List.mem_cons_self (by simpa using q)
      refine clOf_sub r _ x c (fun y hy => h y (List.mem_cons_of_mem _ hy)) (fun x' c' e' => ?_) e
      rw [List.lookup_cons] at e'
      cases hx : x' == n with
      | true =>
        rw [hx] at e'
        have hx' : x' = n := by simpa using hx
        subst hx'
        have hc0' : cells.lookup x' = some c0 := hc0
        rw [hc0'] at e' ⊢
        exact e'
      | false =>
        rw [hx] at e'
        exact hs x' c' e'
    · rw [if_neg q] at e
      exact clOf_sub r _ x c (fun y hy => h y (List.mem_cons_of_mem _ hy)) hs e
theorem clOf_keep {cells : List (Str × Addr)} : ∀ (names : List (Str × NameKind)) (cs : List (Str × Addr)) (x : Str), (∃ c, cs.lookup x = some c) → ∃ c, (clOf cells names cs).lookup x = some c
  | [], cs, x, e => e
  | (n, k) :: r, cs, x, e => by
    unfold clOf
    by_cases q : (k == NameKind.free) = true
    · rw [if_pos q]
      refine clOf_keep r _ x ?_
      rw [List.lookup_cons]
      cases hx : x == n with
      | true => exact ⟨_, rfl⟩
      | false => exact e
    · rw [if_neg q]
      exact clOf_keep r _ x e
theorem clOf_has {cells : List (Str × Addr)} : ∀ (names : List (Str × NameKind)) (cs : List (Str × Addr)) (x : Str), names.lookup x = some .free → ∃ c, (clOf cells names cs).lookup x = some c
  | [], cs, x, e => by simp at e
  | (n, k) :: r, cs, x, e => by
    rw [List.lookup_cons] at e
    unfold clOf
    cases hx : x == n with
    | true =>
      rw [hx] at e
      have e' : k = .free := Option.some.inj e
      subst e'
      rw [if_pos (by decide)]
      refine clOf_keep r _ x ?_
      rw [List.lookup_cons, hx]
      exact ⟨_, rfl⟩
    | false =>
      rw [hx] at e
      by_cases q : (k == NameKind.free) = true
      · rw [if_pos q]; exact clOf_has r _ x e
      · rw [if_neg q]; exact clOf_has r _ x e
def asCell (env : Env) (p : Str × NameKind) : Bool := p.2 == .free && env.scope.kind == .function && env.kindOf p.1 == some .cell
def inBlock (env : Env) (p : Str × NameKind) : Str × NameKind := if asCell env p = true then (p.1, .cell) else p
theorem inBlock_fst (env : Env) (p : Str × NameKind) : (inBlock env p).1 = p.1 := by unfold inBlock; split <;> rfl
theorem inBlock_snd (env : Env) (p : Str × NameKind) : (inBlock env p).2 = p.2 ∨ ((inBlock env p).2 = .cell ∧ p.2 = .free) := by
  unfold inBlock
  split
  · rename_i h
    refine .inr ⟨rfl, ?_⟩
    unfold asCell at h
    cases e : p.2 <;> simp [e] at h <;> rfl
  · exact .inl rfl
theorem relabel_names (scope : Scope) (env : Env) : (relabel scope env).names = scope.names.map (inBlock env) := rfl
theorem look_map {f : Str × NameKind → Str × NameKind} (hf : ∀ p, (f p).1 = p.1) : ∀ (l : List (Str × NameKind)) (x : Str), (l.map f).lookup x = none ∧ l.lookup x = none ∨ ∃ p ∈ l, (l.map f).lookup x = some (f p).2 ∧ l.lookup x = some p.2
  | [], _ => .inl ⟨rfl, rfl⟩
  | p :: r, x => by
    have e1 : ((p :: r).map f).lookup x = if x == p.1 then some (f p).2 else (r.map f).lookup x := by
      show List.lookup x (((f p).1, (f p).2) :: r.map f) = _
      rw [List.lookup_cons, hf p]; cases x == p.1 <;> rfl
    have e2 : (p :: r).lookup x = if x == p.1 then some p.2 else r.lookup x := by
      show List.lookup x ((p.1, p.2) :: r) = _
      rw [List.lookup_cons]; cases x == p.1 <;> rfl
    rw [e1, e2]
    cases x == p.1
    · rcases look_map hf r x with z | ⟨q, hq, z⟩
      · exact .inl z
      · exact .inr ⟨q, List.mem_cons_of_mem _ hq, z⟩
    · exact .inr ⟨p, List.mem_cons_self, rfl, rfl⟩
theorem relabel_kind {scope : Scope} {env : Env} {x : Str} {k' : NameKind} (h : (relabel scope env).names.lookup x = some k') : scope.names.lookup x = some k' ∨ (k' = .cell ∧ scope.names.lookup x = some .free) := by
  rw [relabel_names] at h
  rcases look_map (inBlock_fst env) scope.names x with ⟨z, _⟩ | ⟨p, _, z, e⟩
  · rw [z] at h; cases h
  · rw [z] at h
    obtain rfl := Option.some.inj h
    rcases inBlock_snd env p with q | ⟨q, q'⟩
    · rw [q]; exact .inl e
    · exact .inr ⟨q, by rw [e, q']⟩
theorem relabel_free {scope : Scope} {env : Env} {x : Str} (h : scope.names.lookup x = some .free) : (relabel scope env).names.lookup x = some .cell ∨ (relabel scope env).names.lookup x = some .free := by
  rw [relabel_names]
  rcases look_map (inBlock_fst env) scope.names x with ⟨_, z⟩ | ⟨p, _, z, e⟩
  · rw [z] at h; cases h
  · rw [e] at h
    rcases inBlock_snd env p with q | ⟨q, _⟩
    · rw [z, q, h]; exact .inr rfl
    · rw [z, q]; exact .inl rfl
def cxComp (X : Cx) (N' : List Str) (scope : Scope) (C : Addr) (s₀ : Shared) (H₀ : Hp) (fp : List Addr) (pins : List (Addr × Obj)) : Cx :=
  { X with N := N', s₀ := s₀, H₀ := H₀, env := compEnvC scope (clOf X.env.cells scope.names []) C X.env, outer := X.stack, stack := X.stack, ex := fp, fn := fun _ => false, pn := X.pn ++ pins, xe := fun _ _ => False }
def capσ (cap : List (Option Nat)) (σ : St) : St := cap.map fun o => match o with | some i => (match σ[i]? with | some v => v | none => none) | none => none
def tst (M : Model) (A : Around) (env : Env) (E : Value → Shared → Prop) (o : Option Expr) (Q : Bool → Shared → Prop) (s : Shared) : Prop := match o with
  | none => Q true s
  | some c => wpAny M A (isTrue c env (eval c env)) Q E s
theorem tst_mono {M : Model} {A : Around} {env : Env} {E : Value → Shared → Prop} {o : Option Expr} {Q Q' : Bool → Shared → Prop} {s : Shared} (h : tst M A env E o Q s) (k : ∀ b z, Q b z → Q' b z) : tst M A env E o Q' s := by
  cases o with
  | none => exact k _ _ h
  | some c => exact thn h k
def PTo (X : Cx) (o : Option Expr) (t : TT) : Prop :=
  ∀ (pins : List (Addr × Obj)) (s : Shared) (σ : St) (H : Hp) (Q : Bool → Hp → Prop), Inv X pins σ H s → t σ H Q → tst (model X.prog X.w) X.A X.env X.xe o (TP X pins σ Q) s
def tYes : TT := fun _ H Q => Q true H
theorem pt_none {X : Cx} : PTo X none tYes := fun _ _ _ H _ I h => ⟨H, I, h⟩
theorem pt_some {X : Cx} {c : Expr} {t : TT} (h : PT X c t) : PTo X (some c) t := fun pins s σ H Q I hw => h pins s σ H Q I hw
abbrev NoX : Value → Shared → Prop := fun _ _ => False
def Go (M : Model) (A : Around) (tg elt : Expr) (o : Option Expr) (it acc : Value) (env : Env) (R : Result → Shared → Prop) (onward : Shared → Prop) (s : Shared) : Prop :=
  wpAny M A (pyNext it) (fun r a => match r with
    | none => R (.ok .next) a
    | some v => wpAny M A (letOwnedTupleGo tg it v) (fun _ b => wpAny M A (assign tg env v) (fun _ c => tst M A env NoX o (fun yes d =>
        if yes = true then wpAny M A (eval elt env) (fun x e => wpAny M A (call (.builtin "list.append") [acc, x]) (fun _ f => onward f) NoX e) NoX d else onward d) c) NoX b) NoX a) NoX s
theorem comp_loop {prog : Program} {w : World} {A : Around} {R : Result → Shared → Prop} {s : Shared} {elt tg iter : Expr} {o : Option Expr} {scope : Scope} {pos : Pos} {it acc : Value} {env : Env} (J : Nat → Shared → Prop)
    (turn : ∀ n s, J n s → Go (model prog w) A tg elt o it acc env R (fun z => ∃ m, m < n ∧ J m z) s) (n : Nat) (h : J n s) :
    codeAny (model prog w) A (.compLoop (.ListComp elt [⟨tg, iter, o.toList, 0⟩] scope pos) 0 it acc env) R s := by
  cases o with
  | none =>
    refine PySem.W.kcp_loop J (fun n a ha => wpAny_mono (turn n a ha) (fun r b hb => ?_) fun _ _ z => z.elim) n h
    cases r with
    | none => exact hb
    | some v => exact wpAny_mono hb (fun _ c hc => wpAny_mono hc (fun _ d hd => wpAny_mono (show wpAny _ _ _ _ _ d from hd) (fun x e he => wpAny_mono he (fun _ _ q => q) fun _ _ z => z.elim) fun _ _ z => z.elim) fun _ _ z => z.elim) fun _ _ z => z.elim
  | some t =>
    refine PySem.W.kct_loop J (fun n a ha => wpAny_mono (turn n a ha) (fun r b hb => ?_) fun _ _ z => z.elim) n h
    cases r with
    | none => exact hb
    | some v =>
      refine wpAny_mono hb (fun _ c hc => wpAny_mono hc (fun _ d hd => wpAny_mono (show wpAny _ _ _ _ _ d from hd) (fun yes e he => ?_) fun _ _ z => z.elim) fun _ _ z => z.elim) fun _ _ z => z.elim
      cases yes
      · exact he
      · exact wpAny_mono (show wpAny _ _ _ _ _ e from he) (fun x f hf => wpAny_mono hf (fun _ _ q => q) fun _ _ z => z.elim) fun _ _ z => z.elim
structure CapOk (N N' : List Str) (sc scope : Scope) (cap : List (Option Nat)) : Prop where
  kind : scope.kind = .function
  nocell : ∀ y ∈ scope.names, y.2 ≠ .cell
  names : ∀ y ∈ scope.names, y.2 = .local → scope.names.lookup y.1 = some .local
  free : ∀ y ∈ scope.names, y.2 = .free → sc.names.lookup y.1 = some .cell ∨ sc.names.lookup y.1 = some .free
  len : cap.length = N'.length
  cap : ∀ p ∈ N'.zip cap, ∀ i, p.2 = some i → N[i]? = some p.1 ∧ scope.names.lookup p.1 = some .free ∧ (sc.names.lookup p.1 = some .cell ∨ sc.names.lookup p.1 = some .free)
theorem lookup_mem {α : Type} : ∀ {l : List (Str × α)} {x : Str} {a : α}, l.lookup x = some a → (x, a) ∈ l
  | [], _, _, h => by simp at h
  | (n, k) :: r, x, a, h => by
    rw [List.lookup_cons] at h
    cases hx : x == n with
    | true =>
      rw [hx] at h
      have e : k = a := Option.some.inj h
      have e2 : x = n := by simpa using hx
      subst e e2
      exact List.mem_cons_self
    | false => rw [hx] at h; exact List.mem_cons_of_mem _ (lookup_mem h)

theorem HOk.sameBut {P : Program} {w : World} {H : Hp} {h h' : Heap} {C : Addr} (ok : HOk P w H h) (hC : H C = none) (sb : Heap.SameBut C h h') : HOk P w H h' := fun b ob e => by
  refine (ok b ob e).stay (fun c w' hc q => (sb.2 c ?_).trans q) (fun _ q => q) fun _ _ q => q
  rintro rfl
  rcases hc with rfl | hc
  · rw [hC] at e; cases e
  · rw [hC] at hc; cases hc
def LCW (J : It) (g : TG) (tt : TT) (te : TE) (l : Addr) (Q : VK) (W : Nat → Nat → List V → St → Hp → Prop) : Prop :=
  ∀ i m acc σ' H', W i m acc σ' H' → H' l = some (.lst acc) ∧
    ((J.stop i H' ∧ Q (.ref l) H') ∨ (J.go i H' ∧ ∀ x H2, J.yld i H' x H2 → g x σ' H2 fun σ3 H3 => tt σ3 H3 fun b H4 =>
      if b = true then te σ3 H4 fun y H5 => H5 l = some (.lst acc) ∧ acc.length < sizeLine ∧ ∃ m', m' < m ∧ W (i + 1) m' (acc ++ [y]) σ3 (upd H5 l (.lst (acc ++ [y])))
      else ∃ m', m' < m ∧ W (i + 1) m' acc σ3 H4))
def tLC (cap : List (Option Nat)) (wi : TI) (g : TG) (tt : TT) (te : TE) : TE := fun σ H Q => wi σ H fun J H1 => ∀ l, H1 l = none →
  ∃ W : Nat → Nat → List V → St → Hp → Prop, (∃ m, W 0 m [] (capσ cap σ) (upd H1 l (.lst []))) ∧ LCW J g tt te l Q W
end L2
end
section
set_option maxHeartbeats 4000001
namespace L2
open PySem PySem.Spec PyProof.Rows
theorem lc_core {X : Cx} {elt tg iter : Expr} {o : Option Expr} {scope : Scope} {pos ppos : Pos} {wi : TI} {g : TG} {tt : TT} {te : TE} {N' : List Str} {cap : List (Option Nat)} {use : Option (Value → Sem Unit)} {Q0 : Value → Shared → Prop}
    (hc : X.calm = true) (hi : PI X tg iter wi) (ck : CapOk X.N N' X.env.scope scope cap)
    (hg : ∀ C s₀ H₀ fp pins, PG (cxComp X N' scope C s₀ H₀ fp pins) tg g)
    (ht : ∀ C s₀ H₀ fp pins, PTo (cxComp X N' scope C s₀ H₀ fp pins) o tt)
    (he : ∀ C s₀ H₀ fp pins, PE (cxComp X N' scope C s₀ H₀ fp pins) elt te)
    (hs : ∀ x, foldedSetIterable iter X.env x = pure x) {pins : List (Addr × Obj)} {s : Shared} {σ : St} {H : Hp} {Q : VK} (I : Inv X pins σ H s) (h : tLC cap wi g tt te σ H Q)
    (fin : ∀ (l C : Addr) (H4 : Hp) (s5 : Shared) (m : Str → Option Value), Inv X pins σ H4 s5 → Q (.ref l) H4 → s5.heap.Ns C m → FpOk X pins H4 C → compPost (model X.prog X.w) X.A X.xe use Q0 (.ref l) C (.ok .next) s5) :
    wpAny (model X.prog X.w) X.A (comprehension (.ListComp elt [⟨tg, iter, o.toList, 0⟩] scope pos) scope X.env ppos (newList []) false (eval iter X.env) use) Q0 X.xe s := by
  have hcells : ∀ y ∈ scope.names, y.2 = .free → ∃ c, X.env.cells.lookup y.1 = some c := fun y hy hf => I.ok.has y.1 (ck.free y hy hf)
  refine wpAny_comprehension_free (use := use) rfl hs (closure_eq hcells) ck.kind ck.names (thn (hi pins s σ H _ I h) fun v s1 h1 => thn h1 fun itv s2 h2 => ?_)
  obtain ⟨it, fp, tn, J, H2, e, I2, T, st2, f2, body⟩ := h2
  subst e
  have hfr2 : H2 s2.heap.objs.size = none := I2.hok.fresh (Nat.le_refl _)
  obtain ⟨W, ⟨m0, w0⟩, turn⟩ := body s2.heap.objs.size hfr2
  have I3 : Inv X pins σ (upd H2 s2.heap.objs.size (.lst [])) { s2 with heap := s2.heap.push { cls := .type "list", data := .seq ([] : List Value).toArray }, toks := s2.toks } := I2.lnew (its := []) (t' := s2.toks) .nil (Nat.zero_le _)
  refine wpAny_newObj_type (wpAny_newFunctionEnv ck.nocell (by intro y hy; simp at hy) (fun h₁ hns₁ hsb₁ => ?_) ck.kind)
  dsimp only at hns₁ hsb₁ ⊢
  generalize hl : s2.heap.objs.size = l at *
  generalize hP : s2.heap.push { cls := .type "list", dict := none, data := .seq ([] : List Value).toArray } = P2 at *
  generalize hH3 : upd H2 l (.lst []) = H3 at *
  have old : ∀ b o, P2.get? b = some o → h₁.get? b = some o := fun b o e => hsb₁.extBut b o (Nat.ne_of_lt (Heap.lt_size e)) (Heap.get?_push_of_some _ e)
  have old2 : ∀ b o, s2.heap.get? b = some o → P2.get? b = some o := fun b o e => hP ▸ Heap.get?_push_of_some _ e
  have fpl : ∀ b ∈ fp, b < l := fun b hb => by
    obtain ⟨o, e, _⟩ := T.obj _ _ st2 b hb
    rw [← hl]; exact Heap.lt_size e
  have fp3 : ∀ b ∈ fp, H3 b = none := fun b hb => by
    rw [← hH3, upd_ne (Nat.ne_of_lt (fpl b hb))]; exact (f2 b hb).1
  have hPs : P2.objs.size = l + 1 := by rw [← hP, Heap.size_push, hl]
  have subc : ∀ x c, (clOf X.env.cells scope.names []).lookup x = some c → X.env.cells.lookup x = some c := fun x c e => clOf_sub _ _ x c hcells (fun _ _ z => by simp at z) e
  generalize hs3 : ({ s2 with heap := P2, toks := s2.toks } : Shared) = s3 at *
  have hs3h : s3.heap = P2 := by rw [← hs3]
  let Y := cxComp X N' scope P2.objs.size s3 H3 fp pins
  have hYok : Y.Ok := by
    refine ⟨I3.ok.mod, ck.kind, I3.ok.glob, I3.ok.blt, by show s3.heap.objs.size ≤ P2.objs.size; rw [hs3h]; exact Nat.le_refl _, fun x y c e1 e2 => I3.ok.inj x y c (subc x c e1) (subc y c e2), fun x hx => ?_, fun x c hx => absurd (show false = true from hx) Bool.false_ne_true, I3.ok.hd, I3.ok.frames, .inl rfl, fun b hb => ⟨?_, fun x c e => ?_⟩, I3.bs,
      Nat.le_trans I3.ok.bsz I3.sz, fun b o e hb => ?_, fun b hb hz => ?_, I3.stack, I3.stkFree⟩
    · have hx' : scope.names.lookup x = some .free := by
        rcases hx with hx | hx
        · rcases relabel_kind hx with z | z
          · exact absurd rfl (ck.nocell _ (lookup_mem z))
          · exact z.2
        · rcases relabel_kind hx with z | z
          · exact z
          · exact z.2
      exact clOf_has _ _ x hx'
    · exact Nat.ne_of_lt (by show b < P2.objs.size; rw [hPs]; exact Nat.lt_succ_of_lt (fpl b hb))
    · exact (f2 b hb).2.2.2.2.1 x c (subc x c e)
    · rcases (f2 b hb).2.2.2.1 with z | z
      · exact I3.ok.noex b o e z
      · exact absurd (Nat.lt_of_lt_of_le (Heap.lt_size e) (Nat.le_trans I3.ok.bsz z)) (Nat.lt_irrefl _)
    · rcases List.mem_cons.mp (I3.stkSub b hz) with z | z
      · exact (f2 b hb).2.1 z
      · exact (f2 b hb).2.2.1 z
  have hYi : Inv Y [] (capσ cap σ) H3 { s2 with heap := h₁, toks := s2.toks } := by
    refine ⟨hYok, by show s2.os = s3.os; rw [← hs3], I2.bare, by show Un _ _ _ _ s3.heap h₁; rw [hs3h]; exact Un.kept old, ⟨_, hns₁, fun j x v e1 e2 e3 => ?_⟩, fun x c e => ?_, ?_, fun x c e => I3.freeC x c (subc x c e), fun p hp => ?_, fun b o e => ?_, ?_⟩
    · have e1' : N'[j]? = some x := e1
      unfold capσ at e2
      rw [List.getElem?_map] at e2
      cases ec : cap[j]? with
      | none => rw [ec] at e2; cases e2
      | some oc =>
        rw [ec] at e2
        cases oc with
        | none => cases e2
        | some i =>
          have e2' : σ[i]? = some (some v) := by
            cases ei : σ[i]? with
            | none => simp [ei] at e2
            | some v' =>
              simp [ei] at e2
              rw [e2]
          have hz : (x, some i) ∈ N'.zip cap := by
            refine List.mem_of_getElem? (i := j) ?_
            rw [List.getElem?_zip_eq_some]
            exact ⟨e1', ec⟩
          obtain ⟨hN, hf, hk⟩ := ck.cap _ hz i rfl
          obtain ⟨m, hn, hlo⟩ := I3.loc
          obtain ⟨u, r, lk⟩ := hlo i x v hN e2' (by rcases hk with z | z; exact .inr (.inl z); exact .inr (.inr z))
          refine ⟨u, r, .inr ⟨?_, ?_⟩⟩
          · exact relabel_free hf
          · rcases lk with ⟨z, _⟩ | ⟨_, c, hcx, hcell⟩
            · have z' : X.env.scope.names.lookup x = some .local := z
              rcases hk with q | q
              · rw [q] at z'; cases z'
              · rw [q] at z'; cases z'
            · obtain ⟨c', hc'⟩ := clOf_has (cells := X.env.cells) scope.names [] x hf
              have := subc x c' hc'
              rw [hcx] at this; cases this
              obtain ⟨ob, e, d⟩ := hcell
              rw [hs3h] at e
              exact ⟨c, hc', ob, old c ob e, d⟩
    · obtain ⟨v, ob, e', d⟩ := I3.cell x c (subc x c e)
      rw [hs3h] at e'
      exact ⟨v, ob, old c ob e', d⟩
    · refine I3.hok.fresh ?_
      rw [hs3h]; exact Nat.le_refl _
    · have hp' : p ∈ X.pn ++ pins := (List.mem_append.mp hp).elim (fun z => z) (fun z => nomatch z)
      obtain ⟨e, n, ne, nf, d⟩ := I3.pin p hp'
      rw [hs3h] at e
      refine ⟨old _ _ e, n, Nat.ne_of_lt (Heap.lt_size e), fun z => ?_, d⟩
      rcases List.mem_cons.mp (I3.stkSub _ z) with q | q
      · exact ne q
      · exact nf q
    · have := I3.hok.kept (h' := h₁) (fun b u q => old b u (by rw [← hs3h]; exact q))
      exact this b o e
    · show (cap.map _).length = N'.length
      rw [List.length_map, ck.len]
  have stat : ∀ {H' : Hp}, (∀ b ∈ fp, H' b = none) → ∀ b ∈ fp, FpOk Y [] H' b := fun {H'} hn b hb => by
    refine ⟨hn b hb, (hYok.exf b hb).1, hYok.exfs b hb, .inl hb, (hYok.exf b hb).2, fun p hp => ?_⟩
    have hp' : p ∈ X.pn ++ pins := (List.mem_append.mp hp).elim (fun z => z) (fun z => nomatch z)
    exact (f2 b hb).2.2.2.2.2 p hp'
  have st1 : tn 0 h₁ := T.keep 0 _ _ st2 fun b hb o e => old b o (old2 b o e)
  have loop : codeAny (model X.prog X.w) X.A (.compLoop (.ListComp elt [⟨tg, iter, o.toList, 0⟩] scope pos) 0 (.ref it) (.ref l) Y.env) (compPost (model X.prog X.w) X.A X.xe use Q0 (.ref l) P2.objs.size) { s2 with heap := h₁, toks := s2.toks } := by
    refine comp_loop (fun n s' => ∃ i acc σ' H', Inv Y [] σ' H' s' ∧ tn i s'.heap ∧ (∀ b ∈ fp, H' b = none) ∧ W i n acc σ' H') ?_ m0 ⟨0, [], _, H3, hYi, st1, fp3, w0⟩
    rintro n s4 ⟨i, acc, σ4, H4, I4, st4, fr4, w4⟩
    obtain ⟨hlst, q4⟩ := turn i n acc σ4 H4 w4
    rcases q4 with ⟨stop, qn⟩ | ⟨go, step⟩
    · refine thn (T.done Y rfl rfl rfl hc i [] s4 σ4 H4 Y.xe I4 (stat fr4) st4 stop) fun r s5 ⟨hr, I5⟩ => ?_
      subst hr
      obtain ⟨m, hn, _⟩ := id I5.loc
      have un : Un (frs X.stack) fp H3 H4 s3.heap s5.heap := I5.base
      have sz3 : s3.heap.objs.size ≤ P2.objs.size := by rw [hs3h]; exact Nat.le_refl _
      have IX : Inv X pins σ H4 s5 := I3.call' (ch := fp) I5.os un I5.hok I5.bare fun b hb => ⟨(f2 b hb).2.2.2.1, (f2 b hb).2.1, (f2 b hb).2.2.2.2.1, (f2 b hb).2.2.2.2.2⟩
      exact fin l P2.objs.size H4 s5 m IX qn hn (I3.fpOk sz3 I5.free)
    · refine thn (T.item Y rfl rfl rfl hc i [] s4 σ4 H4 Y.xe I4 (stat fr4) st4 go) fun r s5 ⟨u, hr, h5⟩ => ?_
      subst hr
      refine thn h5 fun _ s6 ⟨x, H6, I6, r6, y6, st6, fr6⟩ => ?_
      have I6' := I6.pinned (stat fr6) (T.obj _ _ st6)
      refine thn (hg _ _ _ _ _ _ s6 σ4 H6 x u _ I6' r6 (step x H6 y6)) fun _ s7 ⟨σ7, H7, I7, q7⟩ => ?_
      refine tst_mono (ht _ _ _ _ _ _ s7 σ7 H7 _ I7 q7) fun b s8 ⟨H8, I8, q8⟩ => ?_
      have again : ∀ {σ9 : St} {H9 : Hp} {s9 : Shared} {acc9 : List V}, Inv Y ([] ++ pinsAt fp s6.heap) σ9 H9 s9 → (∃ m', m' < n ∧ W (i + 1) m' acc9 σ9 H9) → ∃ m, m < n ∧ ∃ i acc σ' H', Inv Y [] σ' H' s9 ∧ tn i s9.heap ∧ (∀ b ∈ fp, H' b = none) ∧ W i m acc σ' H' := fun {σ9 H9 s9 acc9} I9 ⟨m', hm, w9⟩ => by
        refine ⟨m', hm, i + 1, acc9, σ9, H9, I9.unpinned, T.keep _ _ _ st6 fun b hb o e => (I9.pin (b, o) (List.mem_append_right _ (List.mem_append_right _ (mem_pinsAt hb e)))).1, fun b hb => ?_, w9⟩
        obtain ⟨o, e, d⟩ := T.obj _ _ st6 b hb
        exact (I9.pin (b, o) (List.mem_append_right _ (List.mem_append_right _ (mem_pinsAt hb e)))).2.1
      cases b with
      | false =>
        rw [if_neg Bool.false_ne_true] at q8 ⊢
        exact again I8 q8
      | true =>
        rw [if_pos rfl] at q8 ⊢
        refine thn (he _ _ _ _ _ _ s8 σ7 H8 _ I8 q8) fun yv s9 ⟨y, H9, I9, r9, hl9, hz9, q9⟩ => ?_
        refine thn (mt_append (X := Y) _ s9 σ7 H9 (.ref l) [y] (.ref l) [yv] (fun _ H' => H' = upd H9 l (.lst (acc ++ [y]))) I9 rfl (.cons r9 .nil) ⟨l, acc, y, rfl, rfl, hl9, hz9, rfl⟩) fun _ s10 ⟨_, H10, I10, _, e10⟩ => ?_
        subst e10
        exact again I10 q9
  exact codeAny_compStart_list loop (T.self X.A 0 _ _ _ st1 loop)
theorem Inv.gone {X : Cx} {pins : List (Addr × Obj)} {σ : St} {H : Hp} {s : Shared} {C : Addr} {h' : Heap} (I : Inv X pins σ H s) (f : FpOk X pins H C) (sb : Heap.SameBut C s.heap h') : Inv X pins σ H { s with heap := h' } :=
  I.turned (t' := s.toks) (fun b o hb e => (sb.2 b hb).trans e) f.1 f.2.1 f.2.2.2.1 f.2.2.2.2.1 f.2.2.2.2.2
theorem pe_lc {X : Cx} {elt tg iter : Expr} {o : Option Expr} {scope : Scope} {pos : Pos} {wi : TI} {g : TG} {tt : TT} {te : TE} {N' : List Str} {cap : List (Option Nat)}
    (hc : X.calm = true) (hi : PI X tg iter wi) (ck : CapOk X.N N' X.env.scope scope cap)
    (hg : ∀ C s₀ H₀ fp pins, PG (cxComp X N' scope C s₀ H₀ fp pins) tg g)
    (ht : ∀ C s₀ H₀ fp pins, PTo (cxComp X N' scope C s₀ H₀ fp pins) o tt)
    (he : ∀ C s₀ H₀ fp pins, PE (cxComp X N' scope C s₀ H₀ fp pins) elt te)
    (hs : ∀ x, foldedSetIterable iter X.env x = pure x := by intro _; rfl) :
    PE X (.ListComp elt [⟨tg, iter, o.toList, 0⟩] scope pos) (tLC cap wi g tt te) := by
  intro pins s σ H Q I h
  rw [eval_ListComp]
  exact lc_core (use := none) hc hi ck hg ht he hs I h fun l C H4 s5 m I5 q hn f => ⟨m, hn, fun h' sb => ⟨.ref l, H4, I5.gone f sb, rfl, q⟩⟩
theorem ps_setLC {X : Cx} {i : Nat} {y : Str} {elt tg iter : Expr} {o : Option Expr} {scope : Scope} {pos spos py : Pos} {wi : TI} {g : TG} {tt : TT} {te : TE} {N' : List Str} {cap : List (Option Nat)}
    (hN : X.N.Nodup) (hi' : X.N[i]? = some y) (hy : X.env.scope.names.lookup y = some .local) (hc : X.calm = true) (hi : PI X tg iter wi) (ck : CapOk X.N N' X.env.scope scope cap)
    (hg : ∀ C s₀ H₀ fp pins, PG (cxComp X N' scope C s₀ H₀ fp pins) tg g)
    (ht : ∀ C s₀ H₀ fp pins, PTo (cxComp X N' scope C s₀ H₀ fp pins) o tt)
    (he : ∀ C s₀ H₀ fp pins, PE (cxComp X N' scope C s₀ H₀ fp pins) elt te)
    (hs : ∀ x, foldedSetIterable iter X.env x = pure x := by intro _; rfl)
    (hsw : swapsWith (.ListComp elt [⟨tg, iter, o.toList, 0⟩] scope pos) (some (.Name y py)) spos.line X.env = pure true := by with_unfolding_all rfl) :
    PS X (.Assign [.Name y py] (.ListComp elt [⟨tg, iter, o.toList, 0⟩] scope pos) spos) (tAsg (tLC cap wi g tt te) (gName i)) := by
  intro pins s σ H D I h
  rw [exec_Assign_Name_used y py _ spos hsw]
  refine wpAny_bind (wpAny_standAt (wpAny_bind (wpAny_bind (thn (lc_core (use := some (assign (.Name y py) X.env)) (Q0 := fun _ z => SP X pins D .next z) hc hi ck hg ht he hs I h fun l C H4 s5 m I5 q hn f => ?_) fun _ z hz => wpAny_pure (wpAny_pure hz)))))
  refine wpAny_assign_Name (store_ok2 (v := .ref l) I5 hN hi' (.inl hy) rfl (fun s6 I6 ⟨a, sb, ha⟩ => ?_) (.inr hy))
  have nC : C ≠ a := by
    rcases ha with z | z
    · rw [z]; exact f.2.1
    · exact fun w => f.2.2.2.2.1 y a z w.symm
  have hn6 : s6.heap.Ns C m := hn.sameBut sb nC
  exact ⟨m, hn6, fun h' sb' => ⟨_, H4, I6.gone f sb', q⟩⟩
end L2
end
section
set_option maxHeartbeats 4000001
namespace Own
open PySem PySem.Spec PyProof.Rows
section
variable {M : Model} {prog : Program} {w : World} {A : Around} {E : Value → Shared → Prop} {s : Shared} {α : Type} {Q : α → Shared → Prop}
theorem rf {a : Addr} {o : Obj} {vs : Array Value} {x : Value} {f : Value → Sem α} (k : Nat) (ho : s.heap.get? a = some o) (hd : o.data = .fields vs) (hx : vs[k]? = some x) (h : wpAny M A (f x) Q E s) :
    wpAny M A (field (.ref a) k >>= f) Q E s := wpAny_bind (wpAny_field ho hd hx h)
theorem nx {T id : String} {B : Builtin} {it : Addr} {P : Value → Shared → Prop} (slot : Slot T "__next__" id) (ty : s.TypeIs (.ref it) T) (en : entryFor table id = some B) (ok : argsOk id ⟨[.ref it], []⟩)
    (h : wpAny (model prog w) A.in1 (B ⟨[.ref it], []⟩) (fun r s' => ∃ v, r = .done (.ret v) ∧ P v s') E s) : wpAny (model prog w) A (Builtin.SmallTypes.nextOf (.ref it)) P E s := by
  unfold Builtin.SmallTypes.nextOf; refine wpAny_bind (wpAny_callSpecial?_slot (name := "__next__") ty slot (wpAny_call_entry slot ty en (thn2 h) ok))
where
  thn2 {B' : Sem Fin} {P : Value → Shared → Prop} {A' : Around} (h : wpAny (model prog w) A' B' (fun r s' => ∃ v, r = .done (.ret v) ∧ P v s') E s) :
      wpAny (model prog w) A' B' (fun r s' => ∃ v, r = .done (.ret v) ∧ wpAny (model prog w) A (pure v) P E s') E s :=
    wpAny_mono h (fun _ _ ⟨v, e, q⟩ => ⟨v, e, wpAny_pure q⟩) fun _ _ z => z
end
theorem ends {A : Around} {E : Value → Shared → Prop} {prog : Program} {w : World} {s : Shared} {α : Type} {Q : α → Shared → Prop} (hh : A.handled = none)
    (h : ∀ h' x, (∀ b o, s.heap.get? b = some o → h'.get? b = some o) → (∃ o, h'.get? x = some o ∧ o.cls = .type "StopIteration") → E (.ref x) { s with heap := h' }) :
    wpAny (model prog w) A (Builtin.SmallTypes.stopIteration : Sem α) Q E s := by
  unfold Builtin.SmallTypes.stopIteration newExc newTuple
  refine wpAny_bind (wpAny_bind (wpAny_newObj_type ?_ (by size_fits)))
  refine wpAny_bind (wpAny_of_eq (a := Value.none) (by rfl) (wpAny_newObj_type (wpAny_raiseNew_none hh (h _ _ (fun b o e => ?_) ⟨_, Heap.get?_push_size _ rfl, rfl⟩)) (by size_fits)))
  exact Heap.get?_push_of_some _ (Heap.get?_push_of_some _ e)
def cN : Bool → String
  | true => "list_iterator"
  | false => "tuple_iterator"
abbrev RIt (b : Bool) (h : Heap) (it a : Addr) (i : Int) : Prop := h.get? it = some { cls := .type (cN b), dict := none, data := .fields #[.ref a, .int i 0], slots := #[] }
def SqO : Bool → Heap → Addr → Array Value → Prop
  | true, h, a, xs => h.IsList a xs
  | false, h, a, xs => h.IsTuple a xs
theorem SqO.ob {b : Bool} {h : Heap} {a : Addr} {xs : Array Value} (x : SqO b h a xs) : ∃ o n, h.get? a = some o ∧ o.data = .seq xs n := by
  cases b <;> (obtain ⟨o, e, _, n, d⟩ := x; exact ⟨o, n, e, d⟩)
theorem SqO.mv {b : Bool} {h h' : Heap} {a : Addr} {xs : Array Value} (x : SqO b h a xs) (k : ∀ o, h.get? a = some o → h'.get? a = some o) : SqO b h' a xs := by
  cases b <;> (obtain ⟨o, e, r⟩ := x; exact ⟨o, k o e, r⟩)
theorem SqO.ne {b b' : Bool} {h : Heap} {a it a' : Addr} {i : Int} {xs : Array Value} (x : SqO b h a xs) (y : RIt b' h it a' i) : a ≠ it := fun z => by
  obtain ⟨o, n, e, d⟩ := x.ob
  rw [z, y] at e; cases e; cases d
section
variable {prog : Program} {w : World} {A : Around} {E : Value → Shared → Prop} {s : Shared}
theorem ty {b : Bool} {it a : Addr} {i : Int} (y : RIt b s.heap it a i) : s.TypeIs (.ref it) (cN b) := ⟨_, y, rfl⟩
theorem rise_go {b : Bool} {it a : Addr} {i : Nat} {xs : Array Value} {x : Value} {P : Value → Shared → Prop} {B : Builtin} (hB : B = match b with | true => Builtin.«list_iterator.__next__» | false => Builtin.«tuple_iterator.__next__»)
    (y : RIt b s.heap it a i) (sq : SqO b s.heap a xs) (hx : xs[i]? = some x) (h : ∀ h', RIt b h' it a (i + 1) → Heap.SameBut it s.heap h' → P x { s with heap := h' }) :
    wpAny (model prog w) A (B ⟨[.ref it], []⟩) (fun r s' => ∃ v, r = .done (.ret v) ∧ P v s') E s := by
  obtain ⟨o, n, e, d⟩ := sq.ob
  have fin : wpAny (model prog w) A (match xs[(i : Int).toNat]? with
      | some x => (do setField (.ref it) 1 (rawInt ((i : Int) + 1)); ret x : Sem Fin)
      | none => Builtin.SmallTypes.stopIteration) (fun r s' => ∃ v, r = .done (.ret v) ∧ P v s') E s := by
    rw [Int.toNat_natCast, hx]
    exact wpAny_bind (wpAny_setField_rec y (show 1 < 2 by decide) fun h' y' sb => wpAny_pure ⟨x, rfl, h h' y' sb⟩)
  rw [Int.toNat_natCast, hx] at fin
  subst hB
  cases b <;>
  · refine rf 0 y rfl rfl (PyIte (show ¬ ((Value.ref a == Value.none) = true) from Bool.false_ne_true) (rf 1 y rfl rfl (wpAny_bind (wpAny_seqItems e d ?_))))
    simp only [Int.toNat_natCast, hx]; exact fin
where
  PyIte {c : Prop} [Decidable c] {α : Type} {a b : Sem α} {M : Model} {A : Around} {Q : α → Shared → Prop} {E : Value → Shared → Prop} {s : Shared} (hc : ¬ c) (h : wpAny M A b Q E s) : wpAny M A (if c then a else b) Q E s := by
    rw [if_neg hc]; exact h
theorem rise_stop {b : Bool} {it a : Addr} {i : Nat} {xs : Array Value} {Q : Fin → Shared → Prop} {B : Builtin} (hB : B = match b with | true => Builtin.«list_iterator.__next__» | false => Builtin.«tuple_iterator.__next__»)
    (hh : A.handled = none) (y : RIt b s.heap it a i) (sq : SqO b s.heap a xs) (hx : xs[i]? = none)
    (h : ∀ h' x, (∀ c o, c ≠ it → s.heap.get? c = some o → h'.get? c = some o) → (∃ o, h'.get? x = some o ∧ o.cls = .type "StopIteration") → E (.ref x) { s with heap := h' }) :
    wpAny (model prog w) A (B ⟨[.ref it], []⟩) Q E s := by
  obtain ⟨o, n, e, d⟩ := sq.ob
  subst hB
  cases b <;>
  · refine rf 0 y rfl rfl (rise_go.PyIte (show ¬ ((Value.ref a == Value.none) = true) from Bool.false_ne_true) (rf 1 y rfl rfl (wpAny_bind (wpAny_seqItems e d ?_))))
    simp only [Int.toNat_natCast, hx]; refine wpAny_bind (wpAny_rule (wpAny_bind (wpAny_setField_rec y (show 0 < 2 by decide) fun h1 _ sb => ?_)))
    exact ends hh fun h2 x k z => h h2 x (fun c o hc q => k c o ((sb.2 c hc).trans q)) z
theorem next_go {b : Bool} {it a : Addr} {i : Nat} {xs : Array Value} {x : Value} {P : Value → Shared → Prop} (y : RIt b s.heap it a i) (sq : SqO b s.heap a xs) (hx : xs[i]? = some x)
    (h : ∀ h', RIt b h' it a (i + 1) → Heap.SameBut it s.heap h' → P x { s with heap := h' }) : wpAny (model prog w) A (Builtin.SmallTypes.nextOf (.ref it)) P E s := by
  cases b
  · exact nx F.slot_tuple_iterator_next (ty y) F.entry_tuple_iterator_next (F.args_tuple_iterator_next_1 _) (rise_go (b := false) rfl y sq hx h)
  · exact nx slot_listiter_next (ty y) entry_listiter_next (args_listiter_next _) (rise_go (b := true) rfl y sq hx h)
theorem next_stop {b : Bool} {it a : Addr} {i : Nat} {xs : Array Value} {P : Value → Shared → Prop} (hh : A.handled = none) (y : RIt b s.heap it a i) (sq : SqO b s.heap a xs) (hx : xs[i]? = none)
    (h : ∀ h' x, (∀ c o, c ≠ it → s.heap.get? c = some o → h'.get? c = some o) → (∃ o, h'.get? x = some o ∧ o.cls = .type "StopIteration") → E (.ref x) { s with heap := h' }) :
    wpAny (model prog w) A (Builtin.SmallTypes.nextOf (.ref it)) P E s := by
  have inner : A.in1.handled = none := hh
  cases b
  · exact nx F.slot_tuple_iterator_next (ty y) F.entry_tuple_iterator_next (F.args_tuple_iterator_next_1 _) (rise_stop (b := false) rfl inner y sq hx h)
  · exact nx slot_listiter_next (ty y) entry_listiter_next (args_listiter_next _) (rise_stop (b := true) rfl inner y sq hx h)
theorem iter_of {b : Bool} {a : Addr} {xs : Array Value} {P : Value → Shared → Prop} (sq : SqO b s.heap a xs)
    (h : P (.ref s.heap.objs.size) { s with heap := s.heap.push { cls := .type (cN b), data := .fields #[.ref a, .int 0 0] } }) : wpAny (model prog w) A (pyIter (.ref a)) P E s := by
  cases b
  · exact wpAny_pyIter_tuple sq h
  · exact wpAny_pyIter_list sq h
end
theorem draws {prog : Program} {w : World} {A : Around} (hh : A.handled = none) (b : Bool) (it a : Addr) (xs : Array Value) (hne : a ≠ it) :
    Draws prog w A it [it, a] xs.size (fun i v => xs[i]? = some v) (fun i h => RIt b h it a i ∧ SqO b h a xs) :=
  ⟨fun _ _ st => ⟨_, st.1⟩, fun _ _ _ st k => ⟨k it List.mem_cons_self _ st.1, st.2.mv fun o e => k a (List.mem_cons_of_mem _ List.mem_cons_self) o e⟩,
    fun i s Q E hi st k => next_go st.1 st.2 (Array.getElem?_eq_getElem hi) fun h' y sb => k _ h' s.toks (Array.getElem?_eq_getElem hi) ⟨y, st.2.mv fun o e => (sb.2 a hne).trans e⟩ sb,
    fun s Q E st k => next_stop hh st.1 st.2 (by simp) fun h' x kk z => k h' x (fun c o hc q => kk c o hc q) z⟩
theorem enum_new (b : Bool) (a : Addr) (o : Obj) (xs : Array Value) :
    Meets (Builtin.«enumerate.__new__» ⟨[.type "enumerate", .ref a], []⟩) (fun _ R s => s.heap.get? a = some o ∧ SqO b s.heap a xs ∧
      R (.ok (.ret (.ref (s.heap.push { cls := .type (cN b), data := .fields #[.ref a, .int 0 0] }).objs.size)))
        { s with heap := (s.heap.push { cls := .type (cN b), data := .fields #[.ref a, .int 0 0] }).push { cls := .type "enumerate", data := .fields #[.none, .bool false, .ref s.heap.objs.size, rawInt 0, .none, .none] } }) :=
  .of_wp fun prog w A R s h => by
    obtain ⟨hp, g, d, tk, os⟩ := s; obtain ⟨ho, sq, h⟩ := h
    have sub := sub_enumerate
    have sq' : SqO b (Shared.heap ⟨hp, g, d, tk, os⟩) a xs := sq
    wp_walk using AutoSeq1.wpAny_loadPart' ho; refine wpAny_stack_any fun st => wpAny_pure ?_
    split
    case h_1 c _ _ _ _ _ =>
      cases (c == Value.type "enumerate") <;> (wp_walk using AutoSeq1.wpAny_loadPart' ho, iter_of sq'; exact ⟨_, rfl, h⟩)
    all_goals (wp_walk using AutoSeq1.wpAny_loadPart' ho, iter_of sq'; exact ⟨_, rfl, h⟩)

theorem call_enum {prog : Program} {w : World} {A : Around} {E : Value → Shared → Prop} {s : Shared} {b : Bool} {a : Addr} {xs : Array Value} {P : Value → Shared → Prop} (sq : SqO b s.heap a xs)
    (h : ∀ h' e it, s.heap.objs.size ≤ e → s.heap.objs.size ≤ it → e ≠ it → IsEnum h' e it 0 .none → RIt b h' it a 0 → (∀ c o, s.heap.get? c = some o → h'.get? c = some o) → P (.ref e) { s with heap := h' }) :
    wpAny (model prog w) A (call (.type "enumerate") [.ref a]) P E s := by
  obtain ⟨o, n, ho, _⟩ := sq.ob
  refine callType_new F.called_enumerate (by decide) (F.typeCall_enumerate_1 _) (F.newCall_enumerate_1 _) (fun obj => F.args_object_init_2 obj _) F.entry_enumerate_new (enum_new b a o xs) ⟨ho, sq, ⟨_, Heap.get?_push_size _ rfl, rfl⟩, ?_⟩
  refine h _ _ _ ?_ (Nat.le_refl _) ?_ (Heap.get?_push_size _ rfl) (Heap.get?_push_of_some _ (Heap.get?_push_size _ rfl)) fun c o e => Heap.get?_push_of_some _ (Heap.get?_push_of_some _ e)
  · rw [Heap.size_push]; exact Nat.le_succ _
  · rw [Heap.size_push]; exact Nat.succ_ne_self _
structure Sep (z TI TO i1 i2 : Addr) (f1 f2 : List Addr) : Prop where
  all : [z, TI, TO, i1, i2].Nodup
  z1 : z ∉ f1
  t1 : TO ∉ f1
  o1 : i2 ∉ f1
  z2 : z ∉ f2
  t2 : TO ∉ f2
  o2 : i1 ∉ f2
section
variable {prog : Program} {w : World} {A : Around} {E : Value → Shared → Prop} {s : Shared} {z TI TO i1 i2 : Addr} {f1 f2 : List Addr} {n1 n2 k : Nat} {P1 P2 : Nat → Value → Prop} {S1 S2 : Nat → Heap → Prop} {a b : Value}
theorem zip_step (S : Sep z TI TO i1 i2 f1 f2) (D1 : Draws prog w A i1 f1 n1 P1 S1) (D2 : Draws prog w A i2 f2 n2 P2 S2) {Q : Value → Shared → Prop}
    (hz : IsZip s.heap z TI TO .none) (hI : IsPair s.heap TI (.ref i1) (.ref i2)) (hO : IsPair s.heap TO a b) (d1 : S1 k s.heap) (d2 : S2 k s.heap) (l1 : k < n1) (l2 : k < n2)
    (h : ∀ x y h' tk, P1 k x → P2 k y → IsZip h' z TI TO (rawInt s.heap.objs.size) → IsPair h' TO x y → S1 (k + 1) h' → S2 (k + 1) h' → IsPair h' s.heap.objs.size x y →
      (∀ c o, c ∉ [z, TO, i1, i2] → s.heap.get? c = some o → h'.get? c = some o) → Q (.ref s.heap.objs.size) { s with heap := h', toks := tk }) :
    wpAny (model prog w) A (Builtin.«zip.__next__» ⟨[.ref z], []⟩) (fun r s' => ∃ v, r = .done (.ret v) ∧ Q v s') E s := by
  have nd := S.all
  simp only [List.nodup_cons, List.mem_cons, List.not_mem_nil, or_false, not_or] at nd
  obtain ⟨⟨zI, zO, z1, z2⟩, ⟨IO, I1, I2⟩, ⟨O1, O2⟩, n12, _⟩ := nd
  refine rf 2 hz rfl rfl (rf 3 hz rfl rfl (wpAny_bind (wpAny_seqItems hI rfl (wpAny_bind (rf 0 hz rfl rfl (wpAny_pure ?_))))))
  simp only [if_true]
  refine wpAny_bind (wpAny_rule (rf 4 hz rfl rfl (wpAny_bind (wpAny_setField_rec hz (show 0 < 5 by decide) fun ha za sa => wpAny_bind ?_))))
  have za' : IsZip ha z TI TO .ellipsis := za; simp only [List.zipIdx_cons, List.zipIdx_nil, List.forIn_cons, List.forIn_nil]
  refine wpAny_bind (wpAny_bind (wpAny_onRaise (wpAny_bind (D1.item k _ _ _ l1 (D1.frame _ _ _ d1 fun c hc o e => (sa.2 c fun q => S.z1 (q ▸ hc)).trans e) fun x hb tb px db sb => wpAny_pure ?_))))
  have Ob : IsPair hb TO a b := (sb.2 TO O1).trans ((sa.2 TO (Ne.symm zO)).trans hO)
  refine wpAny_bind (wpAny_seqItems Ob rfl (wpAny_bind (wpAny_updateSeq_pair Ob fun hc Oc sc => wpAny_bind (wpAny_letGo (wpAny_pure ?_)))))
  have Oc' : IsPair hc TO x b := Oc
  have st2 : S2 k hc := D2.frame _ _ _ d2 fun c hm o e => (sc.2 c fun q => S.t2 (q ▸ hm)).trans ((sb.2 c fun q => S.o2 (q ▸ hm)).trans ((sa.2 c fun q => S.z2 (q ▸ hm)).trans e))
  refine wpAny_bind (wpAny_bind (wpAny_onRaise (wpAny_bind (D2.item k _ _ _ l2 st2 fun y hd td py dd sd => wpAny_pure ?_))))
  have Od : IsPair hd TO x b := (sd.2 TO O2).trans Oc'
  refine wpAny_bind (wpAny_seqItems Od rfl (wpAny_bind (wpAny_updateSeq_pair Od fun he Oe se => wpAny_bind (wpAny_letGo (wpAny_pure (wpAny_pure ?_))))))
  have Oe' : IsPair he TO x y := Oe
  refine wpAny_bind (wpAny_seqItems Oe' rfl (wpAny_bind (wpAny_newTuple (wpAny_bind ?_))))
  have sz : he.objs.size = s.heap.objs.size := by rw [se.1, sd.1, sc.1, sb.1, sa.1]
  have ze : IsZip he z TI TO .ellipsis := (se.2 z zO).trans ((sd.2 z z2).trans ((sc.2 z zO).trans ((sb.2 z z1).trans za')))
  have zn : he.objs.size ≠ z := Nat.ne_of_gt (Heap.lt_size ze)
  unfold Builtin.SmallTypes.ownedTupleHandOut; refine wpAny_bind (wpAny_setField_rec (Heap.get?_push_of_some _ ze) (show 0 < 5 by decide) fun hf zf sf => wpAny_setField_rec zf (show 1 < 5 by decide) fun hg zg sg => wpAny_pure ⟨_, rfl, ?_⟩)
  have up : ∀ c o, c ≠ z → he.get? c = some o → hg.get? c = some o := fun c o q e => (sg.2 c q).trans ((sf.2 c q).trans (Heap.get?_push_of_some _ e))
  have new : IsPair hg he.objs.size x y := (sg.2 _ zn).trans ((sf.2 _ zn).trans (Heap.get?_push_size _ rfl))
  have zg' : IsZip hg z TI TO (rawInt he.objs.size) := zg
  rw [sz] at new zg'
  show Q (.ref he.objs.size) _
  rw [sz]
  refine h x y hg td px py zg' (up _ _ (Ne.symm zO) Oe') ?_ ?_ new fun c o hc e => ?_
  · exact D1.frame _ _ _ db fun c hm o e => up c o (fun q => S.z1 (q ▸ hm)) ((se.2 c fun q => S.t1 (q ▸ hm)).trans ((sd.2 c fun q => S.o1 (q ▸ hm)).trans ((sc.2 c fun q => S.t1 (q ▸ hm)).trans e)))
  · exact D2.frame _ _ _ dd fun c hm o e => up c o (fun q => S.z2 (q ▸ hm)) ((se.2 c fun q => S.t2 (q ▸ hm)).trans e)
  · simp only [List.mem_cons, List.not_mem_nil, or_false, not_or] at hc
    obtain ⟨c1, c2, c3, c4⟩ := hc
    exact up c o c1 ((se.2 c c2).trans ((sd.2 c c4).trans ((sc.2 c c2).trans ((sb.2 c c3).trans ((sa.2 c c1).trans e)))))
end
end Own
end
section
set_option maxHeartbeats 4000001
namespace Own
open PySem PySem.Spec PyProof.Rows
section
variable {prog : Program} {w : World} {A : Around} {E : Value → Shared → Prop} {s : Shared} {z TI TO i1 i2 : Addr} {f1 f2 : List Addr} {n1 n2 k : Nat} {P1 P2 : Nat → Value → Prop} {S1 S2 : Nat → Heap → Prop} {a b : Value}
theorem zip_stop (S : Sep z TI TO i1 i2 f1 f2) (D1 : Draws prog w A i1 f1 n1 P1 S1) {Q : Fin → Shared → Prop} (hz : IsZip s.heap z TI TO .none) (hI : IsPair s.heap TI (.ref i1) (.ref i2)) (d1 : S1 n1 s.heap)
    (h : ∀ h' x, (∀ c o, c ∉ [z, TO, i1, i2] → s.heap.get? c = some o → h'.get? c = some o) → (∃ o, h'.get? x = some o ∧ o.cls = .type "StopIteration") → E (.ref x) { s with heap := h' }) : wpAny (model prog w) A (Builtin.«zip.__next__» ⟨[.ref z], []⟩) Q E s := by
  have nd := S.all
  simp only [List.nodup_cons, List.mem_cons, List.not_mem_nil, or_false, not_or] at nd
  obtain ⟨⟨zI, zO, z1, z2⟩, ⟨IO, I1, I2⟩, ⟨O1, O2⟩, n12, _⟩ := nd
  refine rf 2 hz rfl rfl (rf 3 hz rfl rfl (wpAny_bind (wpAny_seqItems hI rfl (wpAny_bind (rf 0 hz rfl rfl (wpAny_pure ?_))))))
  simp only [if_true]
  refine wpAny_bind (wpAny_rule (rf 4 hz rfl rfl (wpAny_bind (wpAny_setField_rec hz (show 0 < 5 by decide) fun ha za sa => wpAny_bind ?_))))
  have za' : IsZip ha z TI TO .ellipsis := za; simp only [List.zipIdx_cons, List.zipIdx_nil, List.forIn_cons, List.forIn_nil]
  refine wpAny_bind (wpAny_bind (wpAny_onRaise (wpAny_bind (D1.done _ _ _ (D1.frame _ _ _ d1 fun c hc o e => (sa.2 c fun q => S.z1 (q ▸ hc)).trans e) fun hb x kb ⟨ox, ex, cx⟩ => ?_))))
  have zb : IsZip hb z TI TO .ellipsis := kb z _ z1 za'
  have xz : x ≠ z := fun q => by rw [q, zb] at ex; cases ex; exact absurd (show Value.type "zip" = Value.type "StopIteration" from cx) (by decide)
  refine wpAny_setField_rec zb (show 0 < 5 by decide) fun hc _ sc => h hc x (fun c o hm e => ?_) ⟨ox, (sc.2 x xz).trans ex, cx⟩
  simp only [List.mem_cons, List.not_mem_nil, or_false, not_or] at hm
  exact (sc.2 c hm.1).trans (kb c o hm.2.2.1 ((sa.2 c hm.1).trans e))
end
theorem zip_new (b1 b2 : Bool) (a1 a2 : Addr) (xs ys : Array Value) : Meets (Builtin.«zip.__new__» ⟨[.type "zip", .ref a1, .ref a2], []⟩) (fun _ R s => SqO b1 s.heap a1 xs ∧ SqO b2 s.heap a2 ys ∧
    ∀ h' z, (∃ TI TO i1 i2, [z, TI, TO, i1, i2].Nodup ∧ (∀ c ∈ [z, TI, TO, i1, i2], s.heap.objs.size ≤ c) ∧ IsZip h' z TI TO .none ∧ IsPair h' TI (.ref i1) (.ref i2) ∧ IsPair h' TO .none .none ∧ RIt b1 h' i1 a1 0 ∧ RIt b2 h' i2 a2 0) →
      (∀ c o, s.heap.get? c = some o → h'.get? c = some o) → R (.ok (.ret (.ref z))) { s with heap := h' }) :=
  .of_wp fun prog w A R s h => by
    obtain ⟨hp, g, d, tk, os⟩ := s; obtain ⟨q1, q2, h⟩ := h
    have sub := sub_zip
    have r1 : SqO b1 (Shared.heap ⟨hp, g, d, tk, os⟩) a1 xs := q1
    have r2 : SqO b2 (Shared.heap ⟨hp.push { cls := .type (cN b1), data := .fields #[.ref a1, .int 0 0] }, g, d, tk, os⟩) a2 ys := q2.mv fun o e => Heap.get?_push_of_some _ e
    wp_walk using iter_of r1, iter_of r2
    refine ⟨_, rfl, h _ _ ⟨_, _, _, _, ?_, ?_, Heap.get?_push_size _ rfl, Heap.get?_push_of_some _ (Heap.get?_push_of_some _ (Heap.get?_push_size _ rfl)), Heap.get?_push_of_some _ (Heap.get?_push_size _ rfl),
      Heap.get?_push_of_some _ (Heap.get?_push_of_some _ (Heap.get?_push_of_some _ (Heap.get?_push_of_some _ (Heap.get?_push_size _ rfl)))), Heap.get?_push_of_some _ (Heap.get?_push_of_some _ (Heap.get?_push_of_some _ (Heap.get?_push_size _ rfl)))⟩ fun c o e => ?_⟩
    · simp only [Heap.size_push, List.nodup_cons, List.mem_cons, List.not_mem_nil, or_false, not_or]
      simp <;> lia
    · simp only [Heap.size_push, List.mem_cons, List.not_mem_nil, or_false]
      intro c hc
      have : hp.objs.size ≤ c := by lia
      exact this
    · exact Heap.get?_push_of_some _ (Heap.get?_push_of_some _ (Heap.get?_push_of_some _ (Heap.get?_push_of_some _ (Heap.get?_push_of_some _ e))))
end Own
end
section
set_option maxHeartbeats 4000001
namespace L2
open PySem PySem.Spec PyProof.Rows Own
section
variable {X : Cx} {pins : List (Addr × Obj)} {σ : St} {H : Hp} {s : Shared} {h' : Heap}
theorem Inv.spunN {fp : List Addr} {T : Addr} {o : HO} {t' : Nat} (I : Inv X pins σ H s) (k : ∀ b o, b ∉ fp → s.heap.get? b = some o → h'.get? b = some o) (hf : ∀ b ∈ fp, FpOk X pins H b) (hT : s.heap.objs.size ≤ T)
    (new : ObjOk X.prog X.w (upd H T o) h' T o) : Inv X pins σ (upd H T o) { s with heap := h', toks := t' } := by
  have hn : H T = none := I.hok.fresh hT
  have neT : ∀ b u, s.heap.get? b = some u → b ≠ T := fun b u e => Nat.ne_of_lt (Nat.lt_of_lt_of_le (Heap.lt_size e) hT)
  have nfp : ∀ b u, H b = some u → b ∉ fp := fun b u e hb => by rw [(hf b hb).1] at e; cases e
  refine I.step (g' := s.gens) (d' := s.drawn) (ch := fp) (fun b hb => ?_) (fun b o _ _ hc e _ => k b o hc e) (fun b o _ _ hc e _ => ⟨o.slots, k b o hc e⟩) (fun b o _ e n => by rw [upd_ne (neT b o e)]; exact n)
    (fun b o hc e => ⟨o, k b o hc e⟩) (fun b xs e => by rw [upd_ne (ne_of_none e hn)]; exact e) (fun b o u e => by rw [upd_ne (ne_of_none e hn)]; exact e) (fun b ps e => ⟨#[], by rw [upd_ne (ne_of_none e hn), e]; simp⟩) (fun m hm => ?_) (fun b u e => ?_) I.bare
  · obtain ⟨f0, f1, f2, f3, f4, f5⟩ := hf b hb
    exact ⟨f3, f1, f4, f5⟩
  · obtain ⟨o, es, ep, ho, r⟩ := hm
    exact ⟨o, es, ep, k _ o (fun hb => (hf _ hb).2.1 rfl) ho, r⟩
  · by_cases hb : b = T
    · subst hb; rw [upd_same] at e; cases e; exact new
    · rw [upd_ne hb] at e
      refine (I.hok b u e).stay (fun c v hc q => k c v ?_ q) (fun c q => by rw [upd_ne (ne_of_none q hn)]; exact q) fun c xs q => by rw [upd_ne (ne_of_none q hn)]; exact q
      rcases hc with z | z
      · rw [z]; exact nfp b u e
      · exact nfp c _ z
theorem Inv.spun {fp : List Addr} {t' : Nat} (I : Inv X pins σ H s) (k : ∀ b o, b ∉ fp → s.heap.get? b = some o → h'.get? b = some o) (hf : ∀ b ∈ fp, FpOk X pins H b) : Inv X pins σ H { s with heap := h', toks := t' } := by
  have nfp : ∀ b u, H b = some u → b ∉ fp := fun b u e hb => by rw [(hf b hb).1] at e; cases e
  refine I.step (g' := s.gens) (d' := s.drawn) (ch := fp) (fun b hb => ?_) (fun b o _ _ hc e _ => k b o hc e) (fun b o _ _ hc e _ => ⟨o.slots, k b o hc e⟩) (fun b o _ e n => n)
    (fun b o hc e => ⟨o, k b o hc e⟩) (fun b xs e => e) (fun b o u e => e) (fun b ps e => ⟨#[], by rw [e]; simp⟩) (fun m hm => ?_) (fun b u e => ?_) I.bare
  · obtain ⟨f0, f1, f2, f3, f4, f5⟩ := hf b hb
    exact ⟨f3, f1, f4, f5⟩
  · obtain ⟨o, es, ep, ho, r⟩ := hm
    exact ⟨o, es, ep, k _ o (fun hb => (hf _ hb).2.1 rfl) ho, r⟩
  · refine (I.hok b u e).stay (fun c v hc q => k c v ?_ q) (fun c q => q) fun c xs q => q
    rcases hc with z | z
    · rw [z]; exact nfp b u e
    · exact nfp c _ z
end
def SqB : Bool → PySem.W.Frag → Hp → Addr → List V → Prop
  | true, K, H, a, xs => SqL K H a xs
  | false, K, H, a, xs => SqT K H a xs
section
variable {X : Cx} {pins : List (Addr × Obj)} {σ : St} {H : Hp} {s : Shared} {a c : Addr} {xs ys : List V} {b : Bool}
theorem Inv.sq (I : Inv X pins σ H s) (h : SqB b X.K H a xs) : ∃ its : List Value, Vals xs its ∧ SqO b s.heap a its.toArray := by
  cases b
  · obtain ⟨its, r, p, z⟩ := I.tuple h
    exact ⟨its, r, p⟩
  · obtain ⟨its, r, p, z⟩ := I.list h
    exact ⟨its, r, p.isList⟩
theorem Inv.sq_inj (I : Inv X pins σ H s) (h : SqB b X.K H a xs) (h' : SqB b X.K H a ys) : xs = ys := by
  cases b
  · exact I.tuple_inj h h'
  · exact I.list_inj h h'
theorem Inv.sq_ne (I : Inv X pins σ H s) (h : SqB b X.K H a xs) (f : FpOk X pins H c) : c ≠ a := by
  rintro rfl
  have inK : ∀ o, X.K.lookup c = some o → False := fun o e => by
    have e1 := I.ok.mod.kin c o e
    rcases f.2.2.2.1 with z | z
    · exact I.ok.noex c o e1 z
    · exact absurd (Nat.lt_of_lt_of_le (Heap.lt_size e1) (Nat.le_trans I.ok.bsz z)) (Nat.lt_irrefl _)
  cases b <;>
  · rcases h with (h | ⟨o, h⟩) | ⟨o, _, _, e, _⟩
    · rw [f.1] at h; cases h
    · rw [f.1] at h; cases h
    · exact inK o e
end
def Pr (v u : V) (H : Hp) (x : V) (H' : Hp) : Prop := ∃ T, H T = none ∧ x = .ref T ∧ H' = upd H T (.tup [v, u])
theorem pair_ok {P : Program} {w : World} {H : Hp} {h : Heap} {T : Addr} {v u : V} {a b : Value} (e : IsPair h T a b) (rv : RelV v a) (ru : RelV u b) : ObjOk P w (upd H T (.tup [v, u])) h T (.tup [v, u]) :=
  ⟨show 2 ≤ sizeLine by decide, [a, b], .cons rv (.cons ru .nil), ⟨_, e, rfl, _, rfl, rfl⟩⟩
def Ite (K : PySem.W.Frag) (b : Bool) (a : Addr) : It :=
  ⟨fun i H => ∃ xs x, SqB b K H a xs ∧ xs[i]? = some x, fun i H x H' => ∃ y, (∀ xs, SqB b K H a xs → xs[i]? = some y) ∧ Pr (.int i) y H x H', fun i H => ∃ xs, SqB b K H a xs ∧ xs.length = i⟩
theorem turn_enum {P : Program} {w : World} {K : PySem.W.Frag} {es : List Expr} {k1} {p1 : Pos} (b : Bool) (a e it : Addr) (hne : e ≠ it) : Turn P w K (.Tuple es k1 p1) (Ite K b a) [e, it] e (fun i h => (∃ old, IsEnum h e it i old) ∧ RIt b h it a i) where
  mem := List.mem_cons_self
  obj := fun i h ⟨⟨old, he⟩, hi⟩ c hc => by
    rcases List.mem_cons.mp hc with q | q
    · rw [q]; exact ⟨_, he, fun v z => by cases z⟩
    · rw [List.mem_singleton.mp q]; exact ⟨_, hi, fun v z => by cases z⟩
  keep := fun i h h' ⟨⟨old, he⟩, hi⟩ kk => ⟨⟨old, kk e (by simp) _ he⟩, kk it (by simp) _ hi⟩
  item := by
    intro X hP hw hK hc i pins s σ H E I hf ⟨⟨old, he⟩, hi⟩ ⟨xs, x, hq, hx⟩
    subst hP hw hK
    obtain ⟨its, rv, p⟩ := I.sq hq
    obtain ⟨u, hu, ru⟩ := rv.get hx
    have hlt : i < its.toArray.size := by simpa using (List.getElem?_eq_some_iff.mp hu).1
    refine wpAny_pyNext_enum_itemD (draws (prog := X.prog) (w := X.w) (A := X.A.in1) (I.ok.hd hc) b it a its.toArray (p.ne hi)) he ⟨hi, p⟩ hlt hne (by simp [hne, I.sq_ne hq (hf e (by simp))]) fun v h1 tk hv ho hs hT _ hk => ?_
    obtain rfl : u = v := Option.some.inj (hu.symm.trans (by simpa using hv))
    refine ⟨_, rfl, wpAny_letOwnedTupleGo_enum ho fun h2 he2 s2 => ?_⟩
    have nT : s.heap.objs.size ≠ e := Nat.ne_of_gt (Heap.lt_size he)
    have nI : s.heap.objs.size ≠ it := Nat.ne_of_gt (Heap.lt_size hi)
    refine ⟨.ref s.heap.objs.size, _, I.spunN (fp := [e, it]) (fun c o hm q => ?_) hf (Nat.le_refl _) (pair_ok (v := .int i) (u := x) ((s2.2 _ nT).trans hT) ⟨tk, rfl⟩ ru), rfl, ⟨x, fun ys hy => by rw [I.sq_inj hy hq]; exact hx, _, I.fresh, rfl, rfl⟩, ⟨⟨_, he2⟩, (s2.2 it (Ne.symm hne)).trans hs.1⟩, fun c hm => ?_⟩
    · have c1 : c ≠ e := fun z => hm (by simp [z])
      exact (s2.2 c c1).trans (hk c o c1 (fun z => hm (by simp [z])) q)
    · rw [upd_ne, (hf c hm).1]
      rintro rfl
      rcases List.mem_cons.mp hm with z | z
      · exact nT z
      · exact nI (List.mem_singleton.mp z)
  done := by
    intro X hP hw hK hc i pins s σ H E I hf ⟨⟨old, he⟩, hi⟩ ⟨xs, hq, hx⟩
    subst hP hw hK
    obtain ⟨its, rv, p⟩ := I.sq hq
    have hz : i = its.toArray.size := by rw [List.size_toArray, ← rv.length, hx]
    refine wpAny_pyNext_enum_endD (draws (prog := X.prog) (w := X.w) (A := X.A.in1) (I.ok.hd hc) b it a its.toArray (p.ne hi)) he ⟨by rw [← hz]; exact hi, p⟩ fun h' eb => ⟨rfl, I.spun (t' := s.toks) (fp := [e, it]) (fun c o hm q => eb c o (fun z => hm (by simp [z])) q) hf⟩
  self := fun _ _ _ _ _ ⟨⟨_, he⟩, _⟩ h => wpAny_pyIter_enum he h
def iEnum (K : PySem.W.Frag) (b : Bool) (ta : TA) : TI := fun σ H R => ta σ H fun vs H1 => ∃ a xs, vs = [.ref a] ∧ SqB b K H1 a xs ∧ R (Ite K b a) H1
theorem pi_enum {X : Cx} {a : Expr} {ta : TA} {p pos p1 : Pos} {es : List Expr} {k1} (b : Bool) (hg : Gl X "enumerate") (hm : X.mg "enumerate" = none) (ha : PA X [a] ta) (hs : starEach [a] X.env = [(false, eval a X.env)] := by rfl) :
    PI X (.Tuple es k1 p1) (.Call (.Name "enumerate" p) [a] [] pos) (iEnum X.K b ta) := by
  intro pins s σ H R I h
  refine Call_ (ld_blt I hg hm (u := .type "enumerate") (by rfl) (PyProof.Rows.callWith_type1 (thn (ha pos pins s σ H _ I h) fun us s1 ⟨vs, H1, I1, r1, q1⟩ => ?_) hs rfl))
  obtain ⟨a', xs, rfl, hq, q⟩ := q1
  obtain ⟨u, rfl, ru⟩ := r1.one
  cases ru
  obtain ⟨its, rv, pl⟩ := I1.sq hq
  refine call_enum pl fun h' e it l1 l2 ne he hi hk => wpAny_pyIter_enum he ⟨_, [e, it], _, _, H1, rfl, I1.kept (t' := s1.toks) hk, turn_enum b a' e it ne, ⟨⟨_, he⟩, hi⟩, fun c hc => ?_, q⟩
  have hc' : s1.heap.objs.size ≤ c := by
    rcases List.mem_cons.mp hc with z | z
    · rw [z]; exact l1
    · rw [List.mem_singleton.mp z]; exact l2
  exact I1.fpOk hc' (I1.hok.fresh hc')
def Itz (K : PySem.W.Frag) (b1 b2 : Bool) (a1 a2 : Addr) : It :=
  ⟨fun i H => ∃ xs ys x y, SqB b1 K H a1 xs ∧ SqB b2 K H a2 ys ∧ xs[i]? = some x ∧ ys[i]? = some y, fun i H v H' => ∃ x y, (∀ xs, SqB b1 K H a1 xs → xs[i]? = some x) ∧ (∀ ys, SqB b2 K H a2 ys → ys[i]? = some y) ∧ Pr x y H v H',
   fun i H => ∃ xs, SqB b1 K H a1 xs ∧ xs.length = i⟩
theorem turn_zip {P : Program} {w : World} {K : PySem.W.Frag} {es : List Expr} {k1} {p1 : Pos} (b1 b2 : Bool) (a1 a2 z TI TO i1 i2 : Addr) (nd : [z, TI, TO, i1, i2].Nodup) :
    Turn P w K (.Tuple es k1 p1) (Itz K b1 b2 a1 a2) [z, TI, TO, i1, i2] z (fun i h => IsZip h z TI TO .none ∧ IsPair h TI (.ref i1) (.ref i2) ∧ (∃ a b, IsPair h TO a b) ∧ RIt b1 h i1 a1 i ∧ RIt b2 h i2 a2 i) where
  mem := List.mem_cons_self
  obj := fun i h ⟨hz, hI, ⟨a, b, hO⟩, h1, h2⟩ c hc => by
    simp only [List.mem_cons, List.not_mem_nil, or_false] at hc
    rcases hc with rfl | rfl | rfl | rfl | rfl
    · exact ⟨_, hz, fun v q => by cases q⟩
    · exact ⟨_, hI, fun v q => by cases q⟩
    · exact ⟨_, hO, fun v q => by cases q⟩
    · exact ⟨_, h1, fun v q => by cases q⟩
    · exact ⟨_, h2, fun v q => by cases q⟩
  keep := fun i h h' ⟨hz, hI, ⟨a, b, hO⟩, h1, h2⟩ kk => ⟨kk z (by simp) _ hz, kk TI (by simp) _ hI, ⟨a, b, kk TO (by simp) _ hO⟩, kk i1 (by simp) _ h1, kk i2 (by simp) _ h2⟩
  item := by
    intro X hP hw hK hc i pins s σ H E I hf ⟨hz, hI, ⟨a, b, hO⟩, h1, h2⟩ ⟨xs, ys, x, y, q1, q2, hx, hy⟩
    subst hP hw hK
    obtain ⟨u1, r1, p1⟩ := I.sq q1
    obtain ⟨u2, r2, p2⟩ := I.sq q2
    obtain ⟨v1, e1, rx⟩ := r1.get hx
    obtain ⟨v2, e2, ry⟩ := r2.get hy
    have nd' := nd
    simp only [List.nodup_cons, List.mem_cons, List.not_mem_nil, or_false, not_or] at nd'
    obtain ⟨⟨zI, zO, z1, z2⟩, ⟨IO, I1, I2⟩, ⟨O1, O2⟩, n12, _⟩ := nd'
    have na1 : ∀ c ∈ [z, TI, TO, i1, i2], c ≠ a1 := fun c hm => I.sq_ne q1 (hf c hm)
    have na2 : ∀ c ∈ [z, TI, TO, i1, i2], c ≠ a2 := fun c hm => I.sq_ne q2 (hf c hm)
    have S : Sep z TI TO i1 i2 [i1, a1] [i2, a2] := ⟨nd, by simp [z1, na1 z (by simp)], by simp [O1, na1 TO (by simp)], by simp [Ne.symm n12, na1 i2 (by simp)], by simp [z2, na2 z (by simp)], by simp [O2, na2 TO (by simp)], by simp [n12, na2 i1 (by simp)]⟩
    have hd := I.ok.hd hc
    have D1 := draws (prog := X.prog) (w := X.w) (A := X.A.in1) hd b1 i1 a1 u1.toArray (p1.ne h1)
    have D2 := draws (prog := X.prog) (w := X.w) (A := X.A.in1) hd b2 i2 a2 u2.toArray (p2.ne h2)
    have tyz : s.TypeIs (.ref z) "zip" := ⟨_, hz, rfl⟩
    unfold pyNext
    refine wpAny_bind (wpAny_attempt (wpAny_callSpecial?_slot (name := "__next__") tyz F.slot_zip_next (wpAny_call_entry F.slot_zip_next tyz F.entry_zip_next (zip_step S D1 D2 hz hI hO ⟨h1, p1⟩ ⟨h2, p2⟩ (by simpa using (List.getElem?_eq_some_iff.mp e1).1) (by simpa using (List.getElem?_eq_some_iff.mp e2).1)
      fun w1 w2 h' tk hw1 hw2 zh Oh d1 d2 new hk => wpAny_pure ?_) (F.args_zip_next_1 _))))
    obtain rfl : v1 = w1 := Option.some.inj (e1.symm.trans (by simpa using hw1))
    obtain rfl : v2 = w2 := Option.some.inj (e2.symm.trans (by simpa using hw2))
    refine ⟨_, rfl, wpAny_letOwnedTupleGo_zip zh fun h3 z3 s3 => ?_⟩
    have nz : s.heap.objs.size ≠ z := Nat.ne_of_gt (Heap.lt_size hz)
    have far : ∀ c ∈ [z, TI, TO, i1, i2], c ≠ s.heap.objs.size := fun c hm => by
      simp only [List.mem_cons, or_false, List.not_mem_nil] at hm
      rcases hm with rfl | rfl | rfl | rfl | rfl
      · exact Nat.ne_of_lt (Heap.lt_size hz)
      · exact Nat.ne_of_lt (Heap.lt_size hI)
      · exact Nat.ne_of_lt (Heap.lt_size hO)
      · exact Nat.ne_of_lt (Heap.lt_size h1)
      · exact Nat.ne_of_lt (Heap.lt_size h2)
    refine ⟨.ref s.heap.objs.size, _, I.spunN (fp := [z, TI, TO, i1, i2]) (fun c o hm q => ?_) hf (Nat.le_refl _) (pair_ok ((s3.2 _ nz).trans new) rx ry), rfl, ⟨x, y, fun l hl => by rw [I.sq_inj hl q1]; exact hx, fun l hl => by rw [I.sq_inj hl q2]; exact hy, _, I.fresh, rfl, rfl⟩,
      ⟨z3, (s3.2 _ (Ne.symm zI)).trans (hk TI _ (by simp [Ne.symm zI, IO, I1, I2]) hI), ⟨_, _, (s3.2 _ (Ne.symm zO)).trans Oh⟩, (s3.2 _ (Ne.symm z1)).trans d1.1, (s3.2 _ (Ne.symm z2)).trans d2.1⟩, fun c hm => by rw [upd_ne (far c hm), (hf c hm).1]⟩
    simp only [List.mem_cons, List.not_mem_nil, or_false, not_or] at hm
    exact (s3.2 c hm.1).trans (hk c o (by simp [hm]) q)
  done := by
    intro X hP hw hK hc i pins s σ H E I hf ⟨hz, hI, ⟨a, b, hO⟩, h1, h2⟩ ⟨xs, q1, hx⟩
    subst hP hw hK
    obtain ⟨u1, r1, p1⟩ := I.sq q1
    have nd' := nd
    simp only [List.nodup_cons, List.mem_cons, List.not_mem_nil, or_false, not_or] at nd'
    obtain ⟨⟨zI, zO, z1, z2⟩, ⟨IO, I1, I2⟩, ⟨O1, O2⟩, n12, _⟩ := nd'
    have na1 : ∀ c ∈ [z, TI, TO, i1, i2], c ≠ a1 := fun c hm => I.sq_ne q1 (hf c hm)
    have S : Sep z TI TO i1 i2 [i1, a1] [i2] := ⟨nd, by simp [z1, na1 z (by simp)], by simp [O1, na1 TO (by simp)], by simp [Ne.symm n12, na1 i2 (by simp)], by simp [z2], by simp [O2], by simp [n12]⟩
    have hsz : i = u1.toArray.size := by rw [List.size_toArray, ← r1.length, hx]
    have tyz : s.TypeIs (.ref z) "zip" := ⟨_, hz, rfl⟩
    unfold pyNext
    refine wpAny_bind (wpAny_attempt (wpAny_callSpecial?_slot (name := "__next__") tyz F.slot_zip_next (wpAny_call_entry F.slot_zip_next tyz F.entry_zip_next
      (zip_stop S (draws (prog := X.prog) (w := X.w) (A := X.A.in1) (I.ok.hd hc) b1 i1 a1 u1.toArray (p1.ne h1)) hz hI ⟨by rw [← hsz]; exact h1, p1⟩ fun h' x hk ⟨o, eo, co⟩ => ?_) (F.args_zip_next_1 _))))
    refine wpAny_bind (wpAny_isInstance (T := "StopIteration") (b := true) ⟨o, eo, co⟩ isSubtype_stop (wpAny_pure ⟨rfl, I.spun (t' := s.toks) (fp := [z, TI, TO, i1, i2]) (fun c o hm q => hk c o ?_ q) hf⟩))
    simp only [List.mem_cons, List.not_mem_nil, or_false, not_or] at hm ⊢
    exact ⟨hm.1, hm.2.2.1, hm.2.2.2.1, hm.2.2.2.2⟩
  self := fun _ _ _ _ _ st h => wpAny_pyIter_zip st.1 h
def iZip (K : PySem.W.Frag) (b1 b2 : Bool) (ta : TA) : TI := fun σ H R => ta σ H fun vs H1 => ∃ a1 a2 xs ys, vs = [.ref a1, .ref a2] ∧ SqB b1 K H1 a1 xs ∧ SqB b2 K H1 a2 ys ∧ R (Itz K b1 b2 a1 a2) H1
theorem pi_zip {X : Cx} {a b : Expr} {ta : TA} {p pos p1 : Pos} {es : List Expr} {k1} (b1 b2 : Bool) (hg : Gl X "zip") (hm : X.mg "zip" = none) (ha : PA X [a, b] ta) (hs : starEach [a, b] X.env = [(false, eval a X.env), (false, eval b X.env)] := by rfl) (hs2 : starEach [b] X.env = [(false, eval b X.env)] := by rfl) :
    PI X (.Tuple es k1 p1) (.Call (.Name "zip" p) [a, b] [] pos) (iZip X.K b1 b2 ta) := by
  intro pins s σ H R I h
  refine Call_ (ld_blt I hg hm (u := .type "zip") (by rfl) (PyProof.Rows.callWith_type1 (thn (ha pos pins s σ H _ I h) fun us s1 ⟨vs, H1, I1, r1, q1⟩ => ?_) (by rw [hs, hs2]) (by rw [hs2]; rfl)))
  obtain ⟨a1, a2, xs, ys, rfl, hq1, hq2, q⟩ := q1
  obtain ⟨u, v, rfl, ru, rv⟩ := r1.two
  cases ru
  cases rv
  obtain ⟨its, _, pl1⟩ := I1.sq hq1
  obtain ⟨jts, _, pl2⟩ := I1.sq hq2
  refine callType_new F.called_zip (by decide) (F.typeCall_zip_2 _ _) (F.newCall_zip_2 _ _) (fun obj => F.args_object_init_3 obj _ _) F.entry_zip_new (zip_new b1 b2 a1 a2 its.toArray jts.toArray) ⟨pl1, pl2, fun h' z ⟨TI, TO, i1, i2, nd, far, hz, hI, hO, h1, h2⟩ hk => ⟨⟨_, hz, rfl⟩, ?_⟩⟩
  exact wpAny_pyIter_zip hz ⟨_, [z, TI, TO, i1, i2], _, _, H1, rfl, I1.kept (t' := s1.toks) hk, turn_zip b1 b2 a1 a2 z TI TO i1 i2 nd, ⟨hz, hI, ⟨_, _, hO⟩, h1, h2⟩, fun c hc => I1.fpOk (far c hc) (I1.hok.fresh (far c hc)), q⟩
end L2
end
section
set_option maxHeartbeats 4000001
namespace L2
open PySem PySem.Spec PyProof.Rows Own
section
variable {X : Cx}
def CMulW (i j : Int) : Prop := i.natAbs < 2 ^ 20000 ∧ j.natAbs < 2 ^ 20000
theorem bits_le {k : Int} {n : Nat} (h : k.natAbs < 2 ^ n) (hn : 0 < n) : Builtin.Int.intBits k ≤ n := by
  unfold Builtin.Int.intBits
  split
  · exact Nat.zero_le _
  · rename_i hk
    have : Nat.log2 k.natAbs < n := (Nat.log2_lt (fun e => hk (by simp [Int.natAbs_eq_zero.mp e]))).mpr h
    lia
theorem CMulW.ok {i j : Int} (h : CMulW i j) : IntMulOk i j := by
  have h1 := bits_le h.1 (by decide)
  have h2 := bits_le h.2 (by decide)
  have big : Builtin.Int.intTooBig (Builtin.Int.intBits i + Builtin.Int.intBits j) = false := by
    have line : (40000 : Nat) ≤ bitsLine := by decide
    unfold Builtin.Int.intTooBig
    simp
    lia
  unfold IntMulOk
  rw [big]; simp
theorem op_mulW : OpR X (binaryOp .Mult) (rI CMulW fun i j => .int (i * j)) := opI fun _ _ _ _ _ _ _ hc q => mul_int q hc.ok
theorem walkB {prog : Program} {w : World} {A : Around} (hh : A.handled = none) (b : Bool) (I a : Addr) (hne : a ≠ I) (xs : Array Value) :
    Walks prog w A I [I, a] [I] xs.size (fun i v => xs[i]? = some v) (fun i h => (match b with | true => h.IsListIter I a i | false => h.IsTupleIter I a i) ∧ SqO b h a xs) := by
  cases b
  · exact Walks.tuple hh I a hne xs
  · exact Walks.list hh I a hne xs
theorem call_allB (hc : X.calm = true) (b : Bool) : CallR X (.builtin "all") (fun vs H Q => ∃ a bs, vs = [.ref a] ∧ SqB b X.K H a (List.map V.bl bs) ∧ Q (.bl (bs.all id)) H) := by
  intro pins s σ H vs us Q I rv h
  obtain ⟨a, bs, rfl, hq, q⟩ := h
  obtain ⟨u, rfl, ru⟩ := rv.one
  cases ru
  obtain ⟨its, r, p⟩ := I.sq hq
  have hne : a ≠ s.heap.objs.size := by
    obtain ⟨o, n, e, _⟩ := p.ob
    exact Nat.ne_of_lt (Heap.lt_size e)
  have hl : its.length = bs.length := by rw [← r.length, List.length_map]
  refine call_all_walk (iter_of p ⟨s.heap.objs.size, [s.heap.objs.size, a], [s.heap.objs.size], _, _, _, fun i => bs.getD i true, rfl, walkB (show X.A.in1.handled = none from I.ok.hd hc) b _ a hne its.toArray, ?_, ?_, ?_⟩)
  · refine ⟨?_, p.mv fun o e => Heap.get?_push_of_some _ e⟩
    cases b <;> exact ⟨_, Heap.get?_push_size _ rfl, rfl, rfl⟩
  · intro i v s' Q' E' hv hQ
    have hv' : its[i]? = some v := by simpa using hv
    have hi := (List.getElem?_eq_some_iff.mp hv').1
    have e : (List.map V.bl bs)[i]? = some (V.bl (bs.getD i true)) := by
      rw [List.getElem?_map, List.getD_eq_getElem?_getD, List.getElem?_eq_getElem (by lia)]
      rfl
    obtain ⟨u', e', ru⟩ := r.get e
    rw [hv'] at e'
    obtain rfl := Option.some.inj e'
    obtain rfl : v = Value.bool (bs.getD i true) := ru
    exact wpAny_truthy_bool hQ
  · intro h' tk hk
    refine ⟨.bl (bs.all id), H, I.kept (t' := tk) fun c o e => hk c o ?_ (Heap.get?_push_of_some _ e), ?_, q⟩
    · exact fun z => Nat.ne_of_lt (Heap.lt_size e) (List.mem_singleton.mp z)
    · show Value.bool _ = Value.bool _
      congr 1
      rw [List.size_toArray, hl, Bool.eq_iff_iff, List.all_eq_true, List.all_eq_true]
      constructor
      · intro h x hx
        obtain ⟨j, hj, e⟩ := List.getElem_of_mem hx
        have at_j := h j (List.mem_range.mpr hj)
        rw [List.getD_eq_getElem?_getD, List.getElem?_eq_getElem hj] at at_j
        rw [← e]; exact at_j
      · intro h j hj
        rw [List.getD_eq_getElem?_getD, List.getElem?_eq_getElem (List.mem_range.mp hj)]
        exact h _ (List.getElem_mem _)
theorem call_isi : CallR X (.builtin "isinstance") (fun vs H Q => ∃ x T t k, vs = [x, .ty T] ∧ TyOf X.K H x t ∧ PySem.W.kitOne X.K t (.type T) = some k ∧ Q (.bl k) H) := by
  intro pins s σ H vs us Q I rv h
  obtain ⟨x, T, t, k, rfl, ht, hk, q⟩ := h
  obtain ⟨u, v, rfl, ru, rv'⟩ := rv.two
  cases (show v = Value.type T from rv')
  exact isinst_ok I ru ht hk fun tk => ⟨.bl k, H, I.tok tk, rfl, q⟩
theorem all_eq (ns ms : List Int) : ((List.range (min (ns.map V.int).length (ms.map V.int).length)).all (fun j => eqV ((ns.map V.int).getD j .non) ((ms.map V.int).getD j .non)) && (ns.map V.int).length == (ms.map V.int).length) = decide (ns = ms) := by
  rw [Bool.eq_iff_iff, Bool.and_eq_true, List.all_eq_true, decide_eq_true_iff, beq_iff_eq, List.length_map, List.length_map]
  have at' : ∀ (l : List Int) (j : Nat) (h : j < l.length), (l.map V.int).getD j .non = .int l[j] := fun l j h => by
    rw [List.getD_eq_getElem?_getD, List.getElem?_map, List.getElem?_eq_getElem h]; rfl
  constructor
  · rintro ⟨h, e⟩
    refine List.ext_getElem e fun j h1 h2 => ?_
    have := h j (List.mem_range.mpr (by lia))
    rw [at' ns j h1, at' ms j h2] at this
    simpa [eqV] using this
  · rintro rfl
    refine ⟨fun j hj => ?_, rfl⟩
    have hj' : j < ns.length := by have := List.mem_range.mp hj; lia
    rw [at' ns j hj']
    simp [eqV]
theorem flat_ints (ns : List Int) : (ns.map V.int).all flatV = true := by
  rw [List.all_map, List.all_eq_true]; intro _ _; rfl
end
example (K : PySem.W.Frag) : PySem.W.kitOne K (.type "int") (.type "tuple") = some false := by rfl
example (K : PySem.W.Frag) : PySem.W.kitOne K (.type "int") (.type "bool") = some false := by first | rfl | decide | (with_unfolding_all rfl)
end L2
end
section
set_option maxHeartbeats 4000001
namespace L2
open PySem PySem.Spec PyProof.Rows Own
theorem same_new {H : Hp} {p : Addr} (h : H p = none) (o : HO) : Same H (upd H p o) := fun b u q => by rw [upd_ne (ne_of_none q h)]; exact q
def capB (N N' : List Str) (sc scope : Scope) (cap : List (Option Nat)) : Bool :=
  decide (scope.kind = .function) && (scope.names.all fun y => decide (y.2 ≠ .cell) && (decide (y.2 ≠ .local) || decide (scope.names.lookup y.1 = some .local)) &&
    (decide (y.2 ≠ .free) || (decide (sc.names.lookup y.1 = some .cell) || decide (sc.names.lookup y.1 = some .free)))) && decide (cap.length = N'.length) &&
  ((N'.zip cap).all fun p => match p.2 with
    | none => true
    | some i => decide (N[i]? = some p.1) && (decide (scope.names.lookup p.1 = some .free) && (decide (sc.names.lookup p.1 = some .cell) || decide (sc.names.lookup p.1 = some .free))))
theorem CapOk.of {N N' : List Str} {sc scope : Scope} {cap : List (Option Nat)} (h : capB N N' sc scope cap = true) : CapOk N N' sc scope cap := by
  unfold capB at h
  simp only [Bool.and_eq_true, List.all_eq_true, Bool.or_eq_true, decide_eq_true_eq] at h
  obtain ⟨⟨⟨h1, h2⟩, h3⟩, h4⟩ := h; refine ⟨h1, fun y hy => (h2 y hy).1.1, fun y hy e => ?_, fun y hy e => ?_, h3, fun p hp i e => ?_⟩
  · rcases (h2 y hy).1.2 with z | z
    · exact absurd e z
    · exact z
  · rcases (h2 y hy).2 with z | z
    · exact absurd e z
    · exact z
  · have q := h4 p hp
    rw [e] at q
    simp only [Bool.and_eq_true, Bool.or_eq_true, decide_eq_true_eq] at q
    exact q
def Nx (n i : Nat) (p : Prop) : Prop := ∃ m', m' < n - i ∧ m' = n - (i + 1) ∧ i + 1 ≤ n ∧ p
theorem nx {n i : Nat} {p : Prop} (h : i < n) (q : p) : Nx n i p := ⟨n - (i + 1), by lia, rfl, h, q⟩
theorem lc_zip {K : PySem.W.Frag} {b1 b2 : Bool} {a1 a2 : Addr} {xs ys : List V} (hxy : xs.length = ys.length) {g : TG} {te : TE} {l : Addr} {σ : St} {H : Hp} {Q : VK} (Pv : Nat → List V → St → Hp → Prop) (h0 : Pv 0 [] σ H)
    (hl : ∀ i acc σ H, Pv i acc σ H → H l = some (.lst acc) ∧ SqB b1 K H a1 xs ∧ SqB b2 K H a2 ys)
    (hs : ∀ i acc σ H x y T, xs[i]? = some x → ys[i]? = some y → H T = none → Pv i acc σ H → g (.ref T) σ (upd H T (.tup [x, y])) fun σ3 H3 => te σ3 H3 fun z H5 => H5 l = some (.lst acc) ∧ acc.length < sizeLine ∧ Nx xs.length i (Pv (i + 1) (acc ++ [z]) σ3 (upd H5 l (.lst (acc ++ [z])))))
    (hd : ∀ acc σ H, Pv xs.length acc σ H → Q (.ref l) H) : ∃ W : Nat → Nat → List V → St → Hp → Prop, (∃ m, W 0 m [] σ H) ∧ LCW (Itz K b1 b2 a1 a2) g tYes te l Q W := by
  refine ⟨fun i m acc σ H => m = xs.length - i ∧ i ≤ xs.length ∧ Pv i acc σ H, ⟨xs.length, by simp, Nat.zero_le _, h0⟩, ?_⟩
  rintro i m acc σ H ⟨rfl, hi, p⟩
  obtain ⟨q0, q1, q2⟩ := hl i acc σ H p
  refine ⟨q0, ?_⟩
  by_cases hlt : i < xs.length
  · refine .inr ⟨⟨xs, ys, _, _, q1, q2, List.getElem?_eq_getElem hlt, List.getElem?_eq_getElem (by lia)⟩, fun v H2 ⟨x, y, ex, ey, T, hT, e1, e2⟩ => ?_⟩
    subst e1 e2
    exact hs i acc σ H x y T (ex xs q1) (ey ys q2) hT p
  · have e : i = xs.length := by lia
    subst e
    exact .inl ⟨⟨xs, q1, rfl⟩, hd acc σ H p⟩
theorem for_enum {K : PySem.W.Frag} {b : Bool} {a : Addr} {xs : List V} {g : TG} {tb : TS} {D : Ends} {σ : St} {H : Hp} (Pv : Nat → St → Hp → Prop) (h0 : Pv 0 σ H) (hl : ∀ i σ H, i ≤ xs.length → Pv i σ H → SqB b K H a xs)
    (hs : ∀ i x σ H T, xs[i]? = some x → H T = none → Pv i σ H → g (.ref T) σ (upd H T (.tup [.int i, x])) fun σ2 H2 => tb { D with nx := Pv (i + 1), ct := Pv (i + 1), bk := D.nx } σ2 H2) (hd : ∀ σ H, Pv xs.length σ H → D.nx σ H) :
    ∃ W : Nat → Nat → St → Hp → Prop, (∃ m, W 0 m σ H) ∧ ∀ i m σ H, W i m σ H →
      ((Ite K b a).stop i H ∧ D.nx σ H) ∨ ((Ite K b a).go i H ∧ ∃ N : St → Hp → Prop, (∀ σ' H', N σ' H' → ∃ m', m' < m ∧ W (i + 1) m' σ' H') ∧ ∀ x H', (Ite K b a).yld i H x H' → g x σ H' fun σ2 H2 => tb { D with nx := N, ct := N, bk := D.nx } σ2 H2) := by
  refine ⟨fun i m σ H => m = xs.length - i ∧ i ≤ xs.length ∧ Pv i σ H, ⟨xs.length, by simp, Nat.zero_le _, h0⟩, ?_⟩
  rintro i m σ H ⟨rfl, hi, p⟩
  have q := hl i σ H hi p
  by_cases hlt : i < xs.length
  · refine .inr ⟨⟨xs, xs[i], q, List.getElem?_eq_getElem hlt⟩, Pv (i + 1), fun σ' H' p' => ⟨xs.length - (i + 1), by lia, rfl, hlt, p'⟩, fun x H' ⟨y, ey, T, hT, e1, e2⟩ => ?_⟩
    subst e1 e2
    exact hs i y σ H T (ey xs q) hT p
  · have e : i = xs.length := by lia
    subst e
    exact .inl ⟨⟨xs, q, rfl⟩, hd σ H p⟩
end L2
end
section
set_option maxHeartbeats 4000001
namespace L2
open PySem PySem.Spec PyProof.Rows Own
section
variable {X : Cx}
end
end L2
end
section
set_option maxHeartbeats 4000001
namespace Own
open PySem PySem.Spec PyProof.Rows
section
variable {prog : Program} {w : World} {A : Around} {E : Value → Shared → Prop} {s : Shared}
theorem SqO.cl {b : Bool} {a : Addr} {xs : Array Value} (x : SqO b s.heap a xs) : s.TypeIs (.ref a) (if b then "list" else "tuple") := by
  cases b <;> (obtain ⟨o, e, c, _⟩ := x; exact ⟨o, e, c⟩)
theorem gather {b : Bool} {a : Addr} {vs : List Value} {Q : List Value → Shared → Prop} (sq : SqO b s.heap a vs.toArray) (hz : vs.length ≤ sizeLine)
    (h : ∀ h', s.heap.objs.size ≤ h'.objs.size → (∀ c o, s.heap.get? c = some o → h'.get? c = some o) → Q vs { s with heap := h' }) : wpAny (model prog w) A (collect (.ref a)) Q E s := by
  obtain ⟨o, n, e, d⟩ := sq.ob
  have new : (s.heap.push (seqObj "list" #[] 0)).get? s.heap.objs.size = some (seqObj "list" #[] 0) := Heap.get?_push_size _ rfl
  have e' : (s.heap.push (seqObj "list" #[] 0)).get? a = some o := Heap.get?_push_of_some _ e
  have old : ∀ c u, s.heap.get? c = some u → ((s.heap.push (seqObj "list" #[] 0)).update s.heap.objs.size (Obj.mapSeq (· ++ vs.toArray))).get? c = some u := fun c u q => by
    rw [Heap.get?_update_other _ _ (Nat.ne_of_gt (Heap.lt_size q))]; exact Heap.get?_push_of_some _ q
  have sq' : SqO b (s.heap.push (seqObj "list" #[] 0)) a vs.toArray := sq.mv fun o q => Heap.get?_push_of_some _ q
  have short : ((#[] : Array Value) ++ vs.toArray).size ≤ sizeLine + 1 := by simp; lia
  unfold collect
  refine wpAny_bind (wpAny_runValue (codeAny_builtin entry_proto_collect' (wpAny_bind (wpAny_newList (wpAny_pure ⟨Code.quiet_builtin _ (by decide +kernel), codeAny_builtin entry_list_iadd' ?_⟩)))))
  show wpAny _ _ (Builtin.List.listExtendWith (.ref s.heap.objs.size) (.ref a) (.ref s.heap.objs.size)) _ _ ({ s with heap := s.heap.push (seqObj "list" #[] 0) } : Shared)
  unfold Builtin.List.listExtendWith; have tyr : Shared.TypeIs ({ s with heap := s.heap.push (seqObj "list" #[] 0) } : Shared) (.ref a) (if b then "list" else "tuple") := SqO.cl sq'
  refine wpAny_bind (wpAny_typeOf tyr ?_)
  have yes : (Builtin.List.listSameRef (.ref s.heap.objs.size) (.ref a) || Value.type (if b then "list" else "tuple") == Value.type "list" || Value.type (if b then "list" else "tuple") == Value.type "tuple") = true := by
    have c : ∀ b : Bool, (Value.type (if b then "list" else "tuple") == Value.type "list" || Value.type (if b then "list" else "tuple") == Value.type "tuple") = true := by decide
    rw [Bool.or_assoc, c b, Bool.or_true]
  rw [if_pos yes]
  refine wpAny_bind (listItems_at e' d (wpAny_bind (listItems_at new rfl ?_)))
  rw [if_neg (by simp)]
  refine wpAny_bind (listUpdate_at new rfl (wpAny_pure ?_) (Nat.zero_le _) short)
  refine wpAny_bind (wpAny_load (get?_update_seq new _) ?_)
  have all : ((#[] : Array Value) ++ vs.toArray).toList = vs := by simp
  have fin : wpAny (model prog w) A (pure ((#[] : Array Value) ++ vs.toArray).toList) Q E { s with heap := (s.heap.push (seqObj "list" #[] 0)).update s.heap.objs.size (Obj.mapSeq (· ++ vs.toArray)) } := by
    rw [all]; exact wpAny_pure (h _ (by rw [Heap.size_update, size_push']; exact Nat.le_succ _) old)
  exact fin
end
end Own
namespace L2
open PySem PySem.Spec PyProof.Rows Own
section
variable {X : Cx}
end
end L2
end
section
set_option maxHeartbeats 4000001
namespace L2
open PySem PySem.Spec PyProof.Rows Own
section
variable {X : Cx}
end
theorem lc_rangeT {lo : Int} {n : Nat} {g : TG} {tt : TT} {te : TE} {l : Addr} {σ : St} {H : Hp} {Q : VK} (Pv : Nat → List V → St → Hp → Prop) (h0 : Pv 0 [] σ H) (hl : ∀ i acc σ H, Pv i acc σ H → H l = some (.lst acc))
    (hs : ∀ i acc σ H, i < n → Pv i acc σ H → g (.int (lo + i)) σ H fun σ3 H3 => tt σ3 H3 fun b H4 => if b = true then te σ3 H4 fun y H5 => H5 l = some (.lst acc) ∧ acc.length < sizeLine ∧ Nx n i (Pv (i + 1) (acc ++ [y]) σ3 (upd H5 l (.lst (acc ++ [y])))) else Nx n i (Pv (i + 1) acc σ3 H4))
    (hd : ∀ acc σ H, Pv n acc σ H → Q (.ref l) H) : ∃ W : Nat → Nat → List V → St → Hp → Prop, (∃ m, W 0 m [] σ H) ∧ LCW (Itr lo n) g tt te l Q W := by
  refine ⟨fun i m acc σ H => m = n - i ∧ i ≤ n ∧ Pv i acc σ H, ⟨_, rfl, Nat.zero_le _, h0⟩, ?_⟩
  rintro i m acc σ H ⟨rfl, hi, p⟩
  refine ⟨hl i acc σ H p, ?_⟩
  by_cases hlt : i < n
  · refine .inr ⟨hlt, fun x H2 ⟨e, y⟩ => ?_⟩
    subst e y
    exact hs i acc σ _ hlt p
  · obtain rfl : i = n := by lia
    exact .inl ⟨Nat.le_refl _, hd acc σ H p⟩
end L2
end
section
set_option maxHeartbeats 4000001
namespace L2
open PySem PySem.Spec PyProof.Rows PySem.Calls PySem.NumText Own
section
variable {X : Cx}
end
end L2
end
section
set_option maxHeartbeats 4000001
namespace L2
open PySem PySem.Spec PyProof.Rows Own
section
variable {prog : Program} {w : World} {A : Around} {E : Value → Shared → Prop} {s : Shared}
end
def upTo (n : Nat) : List V := (List.range n).map fun (i : Nat) => V.int i
theorem vals_of_items {acc : Array Value} {n : Nat} (h : ItemsOf (fun i v => ∃ t, v = Value.int (0 + i * 1) t) acc n) : Vals (upTo n) acc.toList := by
  obtain ⟨h1, h2⟩ := h
  have go : ∀ (l : List Value) (k : Nat), (∀ (j : Nat) (v : Value), l[j]? = some v → ∃ t, v = Value.int ((k + j : Nat) : Int) t) → Vals ((List.range l.length).map fun (i : Nat) => V.int ((k + i : Nat) : Int)) l := by
    intro l
    induction l with
    | nil => intro k _; exact .nil
    | cons x l ih =>
      intro k hx
      rw [List.length_cons, List.range_succ_eq_map, List.map_cons, List.map_map]
      refine .cons (by obtain ⟨t, e⟩ := hx 0 x rfl; exact ⟨t, e⟩) ?_
      have := ih (k + 1) fun j v hj => by
        obtain ⟨t, e⟩ := hx (j + 1) v (by simpa using hj)
        exact ⟨t, by rw [e]; congr 1; lia⟩
      refine cast (congrArg (fun z => Vals z l) (List.map_congr_left fun i _ => ?_)) this
      show V.int ((k + 1 + i : Nat) : Int) = V.int ((k + (i + 1) : Nat) : Int)
      congr 2; lia
  have := go acc.toList 0 fun j v hj => by
    obtain ⟨t, e⟩ := h2 j v (by simpa using hj)
    exact ⟨t, by rw [e]; congr 1; lia⟩
  rw [Array.length_toList, h1] at this
  unfold upTo
  refine cast (congrArg (fun z => Vals z acc.toList) (List.map_congr_left fun i _ => ?_)) this
  show V.int ((0 + i : Nat) : Int) = V.int (i : Int)
  rw [Nat.zero_add]
theorem upTo_len (n : Nat) : (upTo n).length = n := by simp [upTo]
section
variable {X : Cx}
def tTyRng (b : Bool) (ta : TA) : TE := fun σ H Q => ta σ H fun vs H1 => ∃ j : Nat, vs = [.int j] ∧ j ≤ 100000 ∧ ∀ l, H1 l = none → Q (.ref l) (upd H1 l (if b = true then .lst (upTo j) else .tup (upTo j)))
theorem small_of {j : Nat} (h : j ≤ 100000) : Builtin.Range.small 0 (j : Int) 1 = true := small_one (by lia) (by lia) (by lia) (by lia)
theorem size_of {j : Nat} : Builtin.Range.rangeSize 0 (j : Int) 1 = ((j : Nat) : Int) := by rw [rangeSize_one]; split <;> lia
theorem pe_lstRng {a : Expr} {ta : TA} {p p2 pos pos2 : Pos} (hc : X.calm = true) (hgl : Gl X "list") (hml : X.mg "list" = none) (hgr : Gl X "range") (hmr : X.mg "range" = none) (ha : PA X [a] ta) (hs : starEach [a] X.env = [(false, eval a X.env)] := by rfl)
    (hs2 : starEach [.Call (.Name "range" p2) [a] [] pos2] X.env = [(false, eval (.Call (.Name "range" p2) [a] [] pos2) X.env)] := by rfl) : PE X (.Call (.Name "list" p) [.Call (.Name "range" p2) [a] [] pos2] [] pos) (tTyRng true ta) := by
  intro pins s σ H Q I h
  refine wpAny_Call_Name_kw (ld_blt I hgl hml (u := .type "list") (by rfl) (PyProof.Rows.callWith_type1 ?_ hs2 rfl))
  rw [hs2]
  refine Calls.spliced_cons (Call_ (ld_blt I hgr hmr boot_range (PyProof.Rows.callWith_type1 (thn (ha pos2 pins s σ H _ I h) fun us s1 ⟨vs, H1, I1, r1, q1⟩ => ?_) hs rfl)))
  obtain ⟨j, rfl, hj, q⟩ := q1
  obtain ⟨u, rfl, t, rfl⟩ := r1.one
  refine call_range_1 (Calls.spliced_nil ?_)
  refine call_list_range (n := j) (I1.ok.hd hc) (IsRange.new ..) (small_of hj) size_of (Nat.le_trans hj (by decide)) fun h' tk acc' c' kk e it => ?_
  have k2 : ∀ b o, s1.heap.get? b = some o → h'.get? b = some o := fun b o z => kk b o (Heap.get?_push_of_some _ z)
  refine ⟨.ref _, _, I1.laid (t' := tk) (o := .lst (upTo j)) k2 ?_ ⟨by rw [upTo_len]; exact Nat.le_trans hj (by decide), acc'.toList, c', vals_of_items it, by simpa using e⟩, rfl, q _ (I1.hok.fresh ?_)⟩
  all_goals (show s1.heap.objs.size ≤ (s1.heap.push _).objs.size; rw [Heap.size_push]; exact Nat.le_succ _)
theorem op_neE (hu : X.A.units < cLine) : OpR X (compareOp .NotEq) (fun x y H Q => ∃ a b xs, x = .ref a ∧ y = .ref b ∧ SqL X.K H a xs ∧ SqL X.K H b [] ∧ Q (.bl (!xs.isEmpty)) H) := by
  intro pins s σ H x y v u Q I rx ry h
  obtain ⟨a, b, xs, rfl, rfl, ha, hb, q⟩ := h
  cases rx; cases ry
  obtain ⟨its, r1, p1, _⟩ := I.list ha
  obtain ⟨jts, r2, p2, _⟩ := I.list hb
  cases r2
  have l1 := r1.length
  cases xs with
  | nil =>
    cases r1
    exact SeqAt.RcNeAt.lists (e := fun _ => true) p1.isList p2.isList rfl hu (fun j h => absurd h (Nat.not_lt_zero _)) X.prog X.w _ _ ⟨.bl _, H, I, rfl, q⟩
  | cons z zs =>
    exact SeqAt.RcNeAt.lists_lengths p1.isList p2.isList (by rw [List.size_toArray, ← l1]; simp) hu X.prog X.w _ _ ⟨.bl _, H, I, rfl, q⟩
end
end L2
end
section
set_option maxHeartbeats 4000001
namespace L2
open PySem PySem.Spec PyProof.Rows Own
section
variable {prog : Program} {w : World} {A : Around} {E : Value → Shared → Prop} {s : Shared}
end
section
variable {X : Cx}
end
end L2
end
section
set_option maxHeartbeats 4000001
namespace L2
open PySem PySem.Spec PyProof.Rows Own
theorem meets_tidx (l : Addr) (o : Obj) (items : Array Value) (n : Nat) (x : Value) (j : Nat) (hc : o.cls = .type "tuple") (hd : o.data = .seq items n) (e : Nat → Bool) (h0 : ∀ i, i < j → e i = false) (h1 : e j = true) (hj : j < items.size) :
    Meets (Builtin.«tuple.index» ⟨[.ref l, x], []⟩) (fun A R s => s.heap.get? l = some o ∧ (∀ i (h : i < items.size), SeqAt.EqAt A.in1 s items[i] x (e i)) ∧ R (.ok (.ret (.int j s.toks))) { s with toks := s.toks + 1 }) :=
  .of_wp fun prog w A R s h => by
    cases s with
    | mk hp gs dr tk os =>
    obtain ⟨hl, he, h⟩ := h
    unfold Builtin.«tuple.index»
    simp only [Std.Legacy.Range.forIn_eq_forIn_range']
    wp_walk using wpAny_seqItems hl hd, wpAny_forIn_list _ (fun rest b s' => s' = ⟨hp, gs, dr, tk, os⟩ ∧ b.1 = none ∧ ∃ i, i ≤ j ∧ rest = List.range' i (items.size - i)) _
    case turn =>
      rintro i rest b s' ⟨rfl, hb, i', hi, hz⟩
      have hs : items.size - i' = (items.size - (i' + 1)) + 1 := by lia
      rw [hs, List.range'_succ] at hz
      injection hz with e1 e2
      subst e1
      have il : i < items.size := by lia
      have hg : items[i]? = some items[i] := by simp [il]
      simp only [hg]
      refine wpAny_bind (he i il prog w _ _ ?_)
      by_cases q : i = j
      · subst q; rw [h1]; wp_walk; exact ⟨_, rfl, h⟩
      · rw [h0 i (by lia)]; wp_walk; exact ⟨rfl, rfl, i + 1, by lia, e2⟩
    case fin =>
      rintro b s' ⟨rfl, hb, i', hi, hz⟩
      have := congrArg List.length hz
      simp at this
      lia
    case h => exact ⟨rfl, rfl, 0, Nat.zero_le _, by simp [Std.Legacy.Range.size]⟩
section
variable {X : Cx}
theorem idx_before : ∀ {ns : List Int} {k : Int} {i : Nat}, i < ns.idxOf k → (ns.getD i 0 == k) = false
  | [], k, i, h => by simp at h
  | n :: ns, k, i, h => by
    rw [List.idxOf_cons] at h
    cases e : n == k with
    | true => rw [e] at h; simp at h
    | false =>
      rw [e] at h
      simp only [cond_false] at h
      cases i with
      | zero => exact e
      | succ i => exact idx_before (ns := ns) (i := i) (by lia)
def tTidx (to : TE) (t : TA) : TE := fun σ H Q => to σ H fun x H1 => ∃ a ns, x = .ref a ∧ H1 a = some (.tup (List.map V.int ns)) ∧ t σ H1 fun vs H2 => ∃ k : Int, vs = [.int k] ∧ H2 a = some (.tup (List.map V.int ns)) ∧ k ∈ ns ∧ Q (.int (ns.idxOf k : Nat)) H2
theorem pe_tidx {o e : Expr} {to : TE} {t : TA} {apos cpos : Pos} (hu : X.A.units + 64 < cLine) (ho : PE X o to) (ha : PA X [e] t)
    (hbase : attributeBase o "index" X.env (eval o X.env) = eval o X.env := by rfl)
    (hfew : ((backTo cpos (starEach [e] X.env)).all (fun x => !x.1) && (backToKw cpos (keywordEach [] X.env)).all (fun x => x.1.isSome) && decide ([e].length + ([] : List Keyword).length + (if ([] : List Keyword).isEmpty then 0 else 1) < 30)) = true := by rfl)
    (hline : (apos.endLine == cpos.line) = true := by rfl) (hs : starEach [e] X.env = (false, eval e X.env) :: starEach [] X.env := by rfl) : PE X (.Call (.Attribute o "index" apos) [e] [] cpos) (tTidx to t) := by
  intro pins s σ H Q I h
  refine wpAny_Call_method_late hbase hfew hline rfl (thn (ho pins s σ H _ I h) fun v s1 ⟨x, H1, I1, r1, a, ns, ex, hx, q1⟩ => ?_)
  subst ex
  cases r1
  obtain ⟨_, its, _, ⟨ob, eo, c1, n1, d1, nd⟩⟩ := (show ObjOk X.prog X.w H1 s1.heap a (.tup (List.map V.int ns)) from I1.hok a _ hx)
  refine ⟨"tuple", "tuple.index", PySem.F.plainAttrs_tuple, PySem.F.slot_tuple_index, PySem.F.type_tuple_index, ⟨ob, eo, c1⟩, fun a' e' => by cases e'; exact ⟨ob, eo, nd⟩, ?_⟩
  have hA := ha cpos pins s1 σ H1 _ I1 q1
  rw [hs] at hA ⊢
  refine Calls.callWith_builtin rfl (Calls.evalArgs_plain ?_)
  refine thn hA fun us s2 ⟨vs, H2, I2, r2, k, ev, hx2, km, q⟩ => ?_
  subst ev
  obtain ⟨u, rfl, tk, rfl⟩ := r2.one
  obtain ⟨_, jts, rj, ⟨ob2, eo2, c2, n2, d2, nd2⟩⟩ := (show ObjOk X.prog X.w H2 s2.heap a (.tup (List.map V.int ns)) from I2.hok a _ hx2)
  have hlen : jts.toArray.size = ns.length := by rw [List.size_toArray, ← rj.length, List.length_map]
  have hj := List.idxOf_lt_length_of_mem km
  refine call_meets PySem.F.slot_tuple_index ⟨ob2, eo2, c2⟩ PySem.F.entry_tuple_index (PySem.F.args_tuple_index_2 _ _)
    (meets_tidx a ob2 jts.toArray n2 (.int k tk) (ns.idxOf k) c2 d2 (fun i => ns.getD i 0 == k) (fun i hi => ?_) ?_ (by rw [hlen]; exact hj)) ⟨eo2, fun i hi => ?_, ?_⟩
  · exact idx_before hi
  · rw [List.getD_eq_getElem?_getD, List.getElem?_eq_getElem hj]
    simp
  · have hi' : i < ns.length := by rw [← hlen]; exact hi
    obtain ⟨w1, e1, t1, rfl⟩ := rj.get (show (List.map V.int ns)[i]? = some (V.int (ns.getD i 0)) by rw [List.getElem?_map, List.getD_eq_getElem?_getD, List.getElem?_eq_getElem hi']; rfl)
    have g1 : jts.toArray[i] = .int (ns.getD i 0) t1 := by simpa using (List.getElem?_eq_some_iff.mp e1).2
    rw [g1]
    exact (MeetsSeq.EqGives.int _ _ _ _).at _ _
  · exact ⟨.int _, H2, I2.tok _, ⟨_, rfl⟩, q⟩
end
end L2
end
section
set_option maxHeartbeats 4000001
namespace L2
open PySem PySem.Spec PyProof.Rows Own
section
variable {X : Cx}
end
end L2
end
section
set_option maxHeartbeats 4000001
namespace Bn
open PySem L2 Own
def Tups (H H' : Hp) : Prop := ∀ a xs, H a = some (.tup xs) → H' a = some (.tup xs)
theorem Tups.refl (H : Hp) : Tups H H := fun _ _ e => e
theorem Tups.trans {H H1 H2 : Hp} (x : Tups H H1) (y : Tups H1 H2) : Tups H H2 := fun a xs e => y a xs (x a xs e)
theorem Tups.of {H H' : Hp} (s : Same H H') : Tups H H' := fun a _ e => s a _ e
theorem Tups.lst {H : Hp} {l : Addr} {xs ys : List V} (h : H l = some (.lst xs)) : Tups H (upd H l (.lst ys)) := fun a zs e => by
  rw [upd_ne (by rintro rfl; rw [h] at e; cases e)]; exact e
def But (l : Addr) (H H' : Hp) : Prop := ∀ b o, H b = some o → b ≠ l → H' b = some o
theorem But.trans {l : Addr} {H H1 H2 : Hp} (x : But l H H1) (y : But l H1 H2) : But l H H2 := fun b o e n => y b o (x b o e n) n
theorem But.of {l : Addr} {H H1 : Hp} (x : Same H H1) : But l H H1 := fun b o e _ => x b o e
def Prs (H : Hp) : List V → List (Nat × Nat) → Prop
  | [], [] => True
  | p :: ps, f :: fs => (∃ a, p = .ref a ∧ H a = some (.tup [.int f.1, .int f.2])) ∧ Prs H ps fs
  | _, _ => False
theorem Prs.tups {H H' : Hp} (t : Tups H H') : ∀ {ps : List V} {fs : List (Nat × Nat)}, Prs H ps fs → Prs H' ps fs
  | [], [], _ => trivial
  | _ :: _, _ :: _, ⟨⟨a, e, h⟩, r⟩ => ⟨⟨a, e, t _ _ h⟩, r.tups t⟩
theorem Prs.len {H : Hp} : ∀ {ps : List V} {fs : List (Nat × Nat)}, Prs H ps fs → ps.length = fs.length
  | [], [], _ => rfl
  | _ :: _, _ :: _, ⟨_, r⟩ => congrArg (· + 1) r.len
theorem Prs.add {H : Hp} {a : Addr} {f : Nat × Nat} (h : H a = some (.tup [.int f.1, .int f.2])) : ∀ {ps : List V} {fs : List (Nat × Nat)}, Prs H ps fs → Prs H (ps ++ [.ref a]) (fs ++ [f])
  | [], [], _ => ⟨⟨a, rfl, h⟩, trivial⟩
  | _ :: _, _ :: _, ⟨x, r⟩ => ⟨x, r.add h⟩
theorem Prs.get {H : Hp} : ∀ {ps : List V} {fs : List (Nat × Nat)} {i : Nat} {p : V}, Prs H ps fs → ps[i]? = some p → ∃ a f, p = .ref a ∧ fs[i]? = some f ∧ H a = some (.tup [.int f.1, .int f.2])
  | [], [], _, _, _, e => by simp at e
  | _ :: _, f :: _, 0, p, ⟨⟨a, e1, h⟩, _⟩, e => by
    have : _ = p := Option.some.inj e
    subst this
    exact ⟨a, f, e1, rfl, h⟩
  | _ :: _, _ :: _, i + 1, p, ⟨_, r⟩, e => r.get (i := i) (by simpa using e)
structure Nt where
  lanes : Nat
  forks : List (Nat × Nat)
  ends : List Nat
structure Nt.Ok (N : Nt) : Prop where
  l1 : 1 ≤ N.lanes
  l16 : N.lanes ≤ 16
  fm : N.forks.length ≤ 128
  fk : ∀ f ∈ N.forks, f.1 < N.lanes ∧ f.2 < N.lanes ∧ f.1 ≠ f.2
  en : N.ends.Perm (List.range N.lanes)
def nums (es : List Nat) : List V := es.map fun (e : Nat) => V.int e
structure NetAt (H : Hp) (r fr er : Addr) (ps : List V) (N : Nt) : Prop where
  net : H r = some (.tup [.int N.lanes, .ref fr, .ref er])
  forks : H fr = some (.tup ps)
  prs : Prs H ps N.forks
  ends : H er = some (.tup (nums N.ends))
theorem NetAt.tups {H H' : Hp} {r fr er : Addr} {ps : List V} {N : Nt} (t : Tups H H') (h : NetAt H r fr er ps N) : NetAt H' r fr er ps N := ⟨t _ _ h.net, t _ _ h.forks, h.prs.tups t, t _ _ h.ends⟩
theorem ends_len {N : Nt} (ok : N.Ok) : N.ends.length = N.lanes := by rw [ok.en.length_eq, List.length_range]
theorem ix_at {α : Type} {xs : List α} {i : Nat} (h : i < xs.length) : ixN xs.length ((i : Nat) : Int) = some i := by
  unfold ixN
  rw [if_pos (by lia), if_pos (by lia)]; simp
structure Mgs (mg : Str → Option Value) : Prop where
  len : mg "len" = none
  range : mg "range" = none
  tuple : mg "tuple" = none
  enum : mg "enumerate" = none
  abs : mg "abs" = none
  zip : mg "zip" = none
  isi : mg "isinstance" = none
  all : mg "all" = none
  sum : mg "sum" = none
  bool : mg "bool" = none
  int : mg "int" = none
  str : mg "str" = none
  max : mg "max" = none
  min : mg "min" = none
  sorted : mg "sorted" = none
  list : mg "list" = none
structure Use (P : Program) (w : World) (K : PySem.W.Frag) (mg : Str → Option Value) (base : Heap) (x : Str) (ps : List Str) (k : Nat) (sp : Sp) (f : Addr) (fd : FuncData) : Prop where
  ok : FnOk P w K mg base CX0 k f fd ps sp
  b : Binds K fd ps []
  kp : PySem.W.keepIn K (.ref f) = true
  m : mg x = some (.ref f)
def Frs (l : Addr) (H : Hp) (x : Addr) : Prop := ∀ b o, H b = some o → b ≠ l → b ≠ x
theorem But.frs {l x : Addr} {H H1 : Hp} (B : But l H H1) (h : H1 x = none) : Frs l H x := fun b o e n => ne_of_none (B b o e n) h
theorem But.upd {l x : Addr} {H H1 : Hp} {o : HO} (B : But l H H1) (f : Frs l H x) : But l H (upd H1 x o) := fun b u e n => by rw [upd_ne (f b u e n)]; exact B b u e n
theorem But.new {l x : Addr} {H H1 : Hp} {o : HO} (B : But l H H1) (h : H1 x = none) : But l H (L2.upd H1 x o) := B.upd (B.frs h)
theorem pick_at {xs : List Nat} {v : Nat} (h : v < xs.length) : ∃ n, n ∈ xs ∧ atI (nums xs) ((v : Nat) : Int) = some (.int n) := by
  refine ⟨xs[v], List.getElem_mem h, atI_nat ?_⟩
  unfold nums
  rw [List.getElem?_map, List.getElem?_eq_getElem h]; rfl
theorem nums_len (es : List Nat) : (nums es).length = es.length := by simp [nums]
theorem other_ok {one d lanes : Nat} (h1 : one < lanes) (h2 : d + 1 < lanes) : (one + 1 + d) % lanes < lanes ∧ one ≠ (one + 1 + d) % lanes := by
  refine ⟨Nat.mod_lt _ (by lia), fun e => ?_⟩
  by_cases z : one + 1 + d < lanes
  · rw [Nat.mod_eq_of_lt z] at e; lia
  · rw [Nat.mod_eq_sub_mod (by lia), Nat.mod_eq_of_lt (by lia)] at e; lia
end Bn
end
section
set_option maxHeartbeats 4000001
namespace Bn
open PySem L2 Own
def nm (ns : List Nat) (i : Nat) : Nat := ns.getD i 0
section
variable {ns : List Nat} {n : Nat} (pm : ns.Perm (List.range n))
include pm
end
def Nt.again (N : Nt) (f : Nat × Nat) : Nt := ⟨N.lanes, N.forks ++ [f], N.ends⟩
theorem Prs.last {H : Hp} : ∀ {ps : List V} {fs : List (Nat × Nat)}, Prs H ps fs → ps ≠ [] → ∃ (qs : List V) (a : Addr) (gs : List (Nat × Nat)) (f : Nat × Nat), ps = qs ++ [.ref a] ∧ fs = gs ++ [f] ∧ H a = some (.tup [.int f.1, .int f.2])
  | [], [], _, n => absurd rfl n
  | [p], [f], ⟨⟨a, e, h⟩, _⟩, _ => ⟨[], a, [], f, by rw [e]; rfl, rfl, h⟩
  | p :: q :: ps, f :: g :: fs, ⟨_, r⟩, _ => by
    obtain ⟨qs, a, gs, k, e1, e2, h⟩ := Prs.last (ps := q :: ps) (fs := g :: fs) r (by simp)
    exact ⟨p :: qs, a, f :: gs, k, by rw [e1]; rfl, by rw [e2]; rfl, h⟩
  | [p], f :: g :: fs, ⟨_, r⟩, _ => False.elim r
  | p :: q :: ps, [f], ⟨_, r⟩, _ => False.elim r
end Bn
end
section
set_option maxHeartbeats 4000001
namespace L2
open PySem PySem.Spec PyProof.Rows Own
def DEq (K : PySem.W.Frag) (H : Hp) : Nat → V → V → Prop
  | 0, x, y => x = y ∧ flatV x = true
  | n + 1, x, y => (x = y ∧ flatV x = true) ∨ ∃ a b xs ys, x = .ref a ∧ y = .ref b ∧ SqT K H a xs ∧ SqT K H b ys ∧ xs.length = ys.length ∧ ∀ (i : Nat) (u v : V), xs[i]? = some u → ys[i]? = some v → DEq K H n u v
section
variable {X : Cx}
theorem eqV_self {x : V} (h : flatV x = true) : eqV x x = true := by
  cases x <;> first | rfl | (simp [eqV]; done) | exact absurd (show false = true from h) Bool.false_ne_true
theorem all_true (n : Nat) : (List.range n).all (fun _ => true) = true := by rw [List.all_eq_true]; intro _ _; rfl
theorem eqAt_flat {A : Around} {s : Shared} {x : V} {u v : Value} (f : flatV x = true) (r1 : RelV x u) (r2 : RelV x v) : SeqAt.EqAt A s u v true := by
  have := eqAt_V (A := A) (s := s) r1 r2 f f
  rwa [eqV_self f] at this
theorem eqAt_D {pins : List (Addr × Obj)} {σ : St} {H : Hp} {s : Shared} (I : Inv X pins σ H s) : ∀ (n : Nat) (A : Around) (x y : V) (u v : Value), A.units + n < cLine → DEq X.K H n x y → RelV x u → RelV y v → SeqAt.EqAt A s u v true
  | 0, A, x, y, u, v, _, ⟨e, f⟩, r1, r2 => by subst e; exact eqAt_flat f r1 r2
  | n + 1, A, x, y, u, v, hu, h, r1, r2 => by
    rcases h with ⟨e, f⟩ | ⟨a, b, xs, ys, rfl, rfl, h1, h2, hl, hx⟩
    · subst e; exact eqAt_flat f r1 r2
    · cases r1; cases r2
      by_cases ab : a = b
      · subst ab; exact SeqAt.EqAt.same _
      · obtain ⟨its, g1, p1, _⟩ := I.tuple h1
        obtain ⟨jts, g2, p2, _⟩ := I.tuple h2
        have l1 := g1.length
        have l2 := g2.length
        refine SeqAt.EqAt.of_refs ab ?_
        have := SeqAt.RcAt.tuples (e := fun _ => true) p1 p2 (A := A) (s := s) (by lia) (fun j k1 k2 => ?_)
        · rw [all_true, List.size_toArray, List.size_toArray, ← l1, ← l2, hl] at this
          simpa using this
        · have k1' : j < xs.length := by simpa [l1] using k1
          have k2' : j < ys.length := by simpa [l2] using k2
          obtain ⟨w1, e1, q1⟩ := g1.get (List.getElem?_eq_getElem k1')
          obtain ⟨w2, e2, q2⟩ := g2.get (List.getElem?_eq_getElem k2')
          have z1 : its.toArray[j] = w1 := by simpa using (List.getElem?_eq_some_iff.mp e1).2
          have z2 : jts.toArray[j] = w2 := by simpa using (List.getElem?_eq_some_iff.mp e2).2
          rw [z1, z2]
          exact eqAt_D I n A.in1 _ _ _ _ (by show A.units + 1 + n < cLine; lia) (hx j _ _ (List.getElem?_eq_getElem k1') (List.getElem?_eq_getElem k2')) q1 q2
def rSameD (K : PySem.W.Frag) (c : Bool) : R2 := fun x y H Q => ∃ n a b xs ys, n ≤ 20 ∧ x = .ref a ∧ y = .ref b ∧ SqT K H a xs ∧ SqT K H b ys ∧ xs.length = ys.length ∧ (∀ (i : Nat) (u v : V), xs[i]? = some u → ys[i]? = some v → DEq K H n u v) ∧ Q (.bl c) H
theorem op_neD (hu : X.A.units + 64 < cLine) : OpR X (compareOp .NotEq) (rSameD X.K false) := by
  intro pins s σ H x y vx vy Q I rx ry h
  obtain ⟨n, a, b, xs, ys, hn, rfl, rfl, h1, h2, hl, hx, q⟩ := h
  cases rx; cases ry
  obtain ⟨its, g1, p1, _⟩ := I.tuple h1
  obtain ⟨jts, g2, p2, _⟩ := I.tuple h2
  have l1 := g1.length
  have l2 := g2.length
  refine SeqAt.RcNeAt.tuples (e := fun _ => true) p1 p2 (by lia) (fun j k1 k2 => ?_) X.prog X.w _ _ ?_
  · have k1' : j < xs.length := by simpa [l1] using k1
    have k2' : j < ys.length := by simpa [l2] using k2
    obtain ⟨w1, e1, q1⟩ := g1.get (List.getElem?_eq_getElem k1')
    obtain ⟨w2, e2, q2⟩ := g2.get (List.getElem?_eq_getElem k2')
    have z1 : its.toArray[j] = w1 := by simpa using (List.getElem?_eq_some_iff.mp e1).2
    have z2 : jts.toArray[j] = w2 := by simpa using (List.getElem?_eq_some_iff.mp e2).2
    rw [z1, z2]
    exact eqAt_D I n _ _ _ _ _ (by show X.A.units + 1 + n < cLine; lia) (hx j _ _ (List.getElem?_eq_getElem k1') (List.getElem?_eq_getElem k2')) q1 q2
  · rw [all_true, List.size_toArray, List.size_toArray, ← l1, ← l2, hl]
    refine ⟨.bl false, H, I, ?_, q⟩
    show Value.bool _ = Value.bool false
    simp
end
end L2
end
section
set_option maxHeartbeats 4000001
namespace L2
open PySem PySem.Spec PyProof.Rows Own
section
variable {prog : Program} {w : World} {A : Around} {E : Value → Shared → Prop} {s : Shared}
end
section
variable {X : Cx}
end
end L2
end
section
set_option maxHeartbeats 4000001
namespace L2
open PySem PySem.Spec PyProof.Rows Own
section
variable {prog : Program} {w : World} {A : Around} {R : Result → Shared → Prop} {I S : Addr} {fp wr : List Addr} {n : Nat} {P B : Nat → Value → Prop} {St : Nat → Heap → Prop}
end
section
variable {prog : Program} {w : World} {A : Around} {E : Value → Shared → Prop} {s : Shared}
end
section
variable {X : Cx} {e e2 : Expr} {ta tb : TE} {p kp pos : Pos}
end
end L2
end
section
set_option maxHeartbeats 4000001
namespace K26
open PySem L2 Own Bn
def top (i : Nat) : Stmt := PySem.Challenge.pw_stairlanes_k26_tellers_refuse.main.body.getD i (.Pass ⟨0, 0, 0, 0⟩)
end K26
end
section
set_option maxHeartbeats 4000001
namespace L2
open PySem PySem.Spec PyProof.Rows Own
section
variable {X : Cx}
end
end L2
end
section
set_option maxHeartbeats 4000001
namespace L2
open PySem PySem.Spec PyProof.Rows Own
section
variable {X : Cx}
theorem ints_eqAt {A : Around} {s : Shared} {ns ms : List Int} {its jts : List Value} (r1 : Vals (ns.map V.int) its) (r2 : Vals (ms.map V.int) jts) (j : Nat) (h1 : j < its.toArray.size) (h2 : j < jts.toArray.size) :
    SeqAt.EqAt A s its.toArray[j] jts.toArray[j] (eqV ((ns.map V.int).getD j .non) ((ms.map V.int).getD j .non)) := by
  have k1 : j < (ns.map V.int).length := by rw [r1.length]; simpa using h1
  have k2 : j < (ms.map V.int).length := by rw [r2.length]; simpa using h2
  obtain ⟨a, ea, qa⟩ := r1.get (List.getElem?_eq_getElem k1)
  obtain ⟨b, eb, qb⟩ := r2.get (List.getElem?_eq_getElem k2)
  have ga : its.toArray[j] = a := by simpa using (List.getElem?_eq_some_iff.mp ea).2
  have gb : jts.toArray[j] = b := by simpa using (List.getElem?_eq_some_iff.mp eb).2
  have fl := flat_ints ns
  have fm := flat_ints ms
  rw [ga, gb, List.getD_eq_getElem?_getD, List.getD_eq_getElem?_getD, List.getElem?_eq_getElem k1, List.getElem?_eq_getElem k2]
  exact eqAt_V qa qb (List.all_eq_true.mp fl _ (List.getElem_mem k1)) (List.all_eq_true.mp fm _ (List.getElem_mem k2))
theorem all_same {ns ms : List Int} (h : ns.length = ms.length) : ((List.range ns.length).all fun j => eqV ((ns.map V.int).getD j .non) ((ms.map V.int).getD j .non)) = decide (ns = ms) := by
  rw [← all_eq ns ms, List.length_map, List.length_map, h, Nat.min_self, beq_self_eq_true, Bool.and_true]
theorem op_eqLi (hu : X.A.units < cLine) : OpR X (compareOp .Eq) (fun x y H Q => ∃ a b ns ms, x = .ref a ∧ y = .ref b ∧ SqL X.K H a (List.map V.int ns) ∧ SqL X.K H b (List.map V.int ms) ∧ Q (.bl (decide (ns = ms))) H) := by
  rintro pins s σ H x y v u Q I rx ry ⟨a, b, ns, ms, rfl, rfl, ha, hb, q⟩
  cases rx; cases ry
  obtain ⟨its, r1, p1, _⟩ := I.list ha
  obtain ⟨jts, r2, p2, _⟩ := I.list hb
  have l1 : its.length = ns.length := by rw [← r1.length, List.length_map]
  have l2 : jts.length = ms.length := by rw [← r2.length, List.length_map]
  by_cases e : ns.length = ms.length
  · refine SeqAt.RcAt.lists p1.isList p2.isList (by simpa [l1, l2] using e) hu (ints_eqAt r1 r2) X.prog X.w _ _ ?_
    rw [List.size_toArray, l1, all_same e]
    exact ⟨.bl _, H, I, rfl, q⟩
  · refine SeqAt.RcAt.lists_lengths p1.isList p2.isList (by simpa [l1, l2] using e) hu X.prog X.w _ _ ?_
    rw [decide_eq_false (fun z => e (congrArg List.length z))] at q
    exact ⟨.bl _, H, I, rfl, q⟩
end
end L2
end
section
set_option maxHeartbeats 4000001
namespace L2
open PySem PySem.Spec PyProof.Rows Own
section
variable {X : Cx}
end
end L2
end
section
set_option maxHeartbeats 4000001
namespace L2
open PySem PySem.Spec PyProof.Rows PySem.Calls PySem.NumText Own
section
variable {prog : Program} {w : World} {A : Around} {E : Value → Shared → Prop} {s : Shared}
end
section
variable {X : Cx}
end
end L2
end
section
set_option maxHeartbeats 4000001
namespace L2
open PySem PySem.Spec PyProof.Rows Own
section
variable {X : Cx}
theorem ps_dead {st : Stmt} : PS X st (fun _ _ _ => False) := fun _ _ _ _ _ _ h => h.elim
theorem pss_dead {b : List Stmt} : PSs X b (fun _ _ _ => False) := fun _ _ _ _ _ _ h => h.elim
end
def AnyT (K : PySem.W.Frag) (H : Hp) (x : V) : Prop := ∃ T, TyOf K H x T ∧ ∃ t : String, T = .type t
def wholeV : V → Bool
  | .int _ => true
  | _ => false
def belowV (b : Int) : V → Bool
  | .int i => decide (0 ≤ i) && decide (i < b)
  | _ => false
def rowOf (H : Hp) : V → Option (List V)
  | .ref a => match H a with
    | some (.tup xs) => some xs
    | _ => none
  | _ => none
structure Isi (K : PySem.W.Frag) (H : Hp) (x : V) (t : Value) : Prop where
  ty : TyOf K H x t
  int : PySem.W.kitOne K t (.type "int") = some (match x with | .int _ => true | .bl _ => true | _ => false)
  bool : PySem.W.kitOne K t (.type "bool") = some (match x with | .bl _ => true | _ => false)
  str : PySem.W.kitOne K t (.type "str") = some (match x with | .str _ => true | _ => false)
  tup : PySem.W.kitOne K t (.type "tuple") = some (rowOf H x).isSome
theorem isi_mk {K : PySem.W.Frag} {H : Hp} {x : V} {T : Value} (h : TyOf K H x T) (et : ∃ t, T = .type t) : Isi K H x T := by
  cases h with
  | ins e _ _ _ _ _ => obtain ⟨t, et⟩ := et; cases et
  | lst e => exact ⟨.lst e, rfl, rfl, rfl, by simp only [rowOf, e]; rfl⟩
  | frz e => exact ⟨.frz e, rfl, rfl, rfl, by simp only [rowOf, e]; rfl⟩
  | tup e => exact ⟨.tup e, rfl, rfl, rfl, by simp only [rowOf, e]; rfl⟩
  | dK e => exact ⟨.dK e, rfl, rfl, rfl, by simp only [rowOf, e]; rfl⟩
  | dT e => exact ⟨.dT e, rfl, rfl, rfl, by simp only [rowOf, e]; rfl⟩
  | non => exact ⟨.non, rfl, rfl, rfl, rfl⟩
  | bl b => exact ⟨.bl b, rfl, rfl, rfl, rfl⟩
  | int i => exact ⟨.int i, rfl, rfl, rfl, rfl⟩
  | str x => exact ⟨.str x, rfl, rfl, rfl, rfl⟩
  | flt x => exact ⟨.flt x, rfl, rfl, rfl, rfl⟩
theorem AnyT.isi {K : PySem.W.Frag} {H : Hp} {x : V} (h : AnyT K H x) : ∃ t, Isi K H x t :=
  let ⟨T, h, et⟩ := h
  ⟨T, isi_mk h et⟩
end L2
end
section
set_option maxHeartbeats 4000001
namespace K26
open PySem L2 Own Bn
abbrev sWhole : Stmt := top 8
abbrev sBelow : Stmt := top 9
def spWhole (K : PySem.W.Frag) : Sp := fun vs H Q _ => ∃ x, vs = [x] ∧ AnyT K H x ∧ Q (.bl (wholeV x)) H
def spBelow (K : PySem.W.Frag) : Sp := fun vs H Q _ => ∃ x b, vs = [x, .int b] ∧ AnyT K H x ∧ Q (.bl (belowV b x)) H
section
variable {P : Program} {w : World} {K : PySem.W.Frag} {mg : Str → Option Value} {base : Heap}
theorem scKw : FnScope ["thing"] ["thing"] (defScope sWhole) := ⟨rfl, rfl, rfl, by decide +kernel, rfl, by decide +kernel, by decide +kernel⟩
theorem ok_whole {f : Addr} {fd : FuncData} (F : Fun K "is_whole" "is_whole" sWhole f fd) (G : Mgs mg) : FnOk P w K mg base CX0 1 f fd ["thing"] (spWhole K) := by
  refine F.ok scKw (fun vs H Q E h => ?_) (fun cdv A outer s H vs Q E hr h => ?_)
  · obtain ⟨x, rfl, _⟩ := h
    rfl
  obtain ⟨x, rfl, ax, k⟩ := h
  refine ⟨_, (@pss_one _ _ _ (@ps_ret _ _ _ _ (@pe_and _ _ _ _ _ _ _ (@pe_callB _ _ _ _ _ _ _ _ _ call_isi (by rfl) G.isi (by rfl) (@pa_cons _ _ _ _ _ (@pv _ 0 _ _ (by rfl) (by first | exact Or.inl rfl | exact Or.inr (Or.inl rfl) | exact Or.inr (Or.inr rfl)) (by decide) (by decide)) (@pa_cons _ _ _ _ _ (@pe_bltn _ _ (.ty "int") (.type "int") _ (by rfl) G.int (by rfl) rfl (by decide) (by decide)) pa_nil (by rfl)) (by rfl)) (by decide) (by decide) (by rfl) (by rfl)) (@pe_one _ _ _ _ _ (@pe_not _ _ _ _ (@pe_callB _ _ _ _ _ _ _ _ _ call_isi (by rfl) G.isi (by rfl) (@pa_cons _ _ _ _ _ (@pv _ 0 _ _ (by rfl) (by first | exact Or.inl rfl | exact Or.inr (Or.inl rfl) | exact Or.inr (Or.inr rfl)) (by decide) (by decide)) (@pa_cons _ _ _ _ _ (@pe_bltn _ _ (.ty "bool") (.type "bool") _ (by rfl) G.bool (by rfl) rfl (by decide) (by decide)) pa_nil (by rfl)) (by rfl)) (by decide) (by decide) (by rfl) (by rfl))))))), ?_⟩
  obtain ⟨t, I⟩ := ax.isi
  refine ⟨_, rfl, _, "int", _, _, rfl, I.ty, I.int, _, rfl, ?_⟩
  cases x with
  | int i => exact iteT ⟨_, rfl, _, "bool", _, _, rfl, I.ty, I.bool, _, rfl, k⟩
  | bl b => exact iteT ⟨_, rfl, _, "bool", _, _, rfl, I.ty, I.bool, _, rfl, k⟩
  | non => exact iteF k
  | str z => exact iteF k
  | flt z => exact iteF k
  | byt z => exact iteF k
  | ref z => exact iteF k
  | ty z => exact iteF k
theorem scKb : FnScope ["thing", "bound"] ["thing", "bound"] (defScope sBelow) := ⟨rfl, rfl, rfl, by decide +kernel, rfl, by decide +kernel, by decide +kernel⟩
theorem ok_below {f fW : Addr} {fd dW : FuncData} (F : Fun K "is_below" "is_below" sBelow f fd) (G : Mgs mg) (UW : Use P w K mg base "is_whole" ["thing"] 1 (spWhole K) fW dW) : FnOk P w K mg base CX0 2 f fd ["thing", "bound"] (spBelow K) := by
  refine F.ok scKb (fun vs H Q E h => ?_) (fun cdv A outer s H vs Q E hr h => ?_)
  · obtain ⟨x, b, rfl, _⟩ := h
    rfl
  obtain ⟨x, b, rfl, ax, k⟩ := h
  refine ⟨_, (@pss_one _ _ _ (@ps_ret _ _ _ _ (@pe_and _ _ _ _ _ _ _ (@pe_call _ _ _ _ _ _ _ _ _ _ _ _ _ _ _ _ UW.ok hr (by rfl) UW.m UW.kp UW.b .nil pass0 (@pa_cons _ _ _ _ _ (@pv _ 0 _ _ (by rfl) (by first | exact Or.inl rfl | exact Or.inr (Or.inl rfl) | exact Or.inr (Or.inr rfl)) (by decide) (by decide)) pa_nil (by rfl)) (by decide) (by rfl) (by rfl)) (@pe_one _ _ _ _ _ (@pe_chain _ _ _ _ _ _ _ _ _ _ _ _ op_le op_lt pe_int (@pv _ 0 _ _ (by rfl) (by first | exact Or.inl rfl | exact Or.inr (Or.inl rfl) | exact Or.inr (Or.inr rfl)) (by decide) (by decide)) (@pv _ 1 _ _ (by rfl) (by first | exact Or.inl rfl | exact Or.inr (Or.inl rfl) | exact Or.inr (Or.inr rfl)) (by decide) (by decide)) (by with_unfolding_all rfl)))))), ?_⟩
  refine ⟨_, rfl, _, rfl, ax, _, rfl, ?_⟩
  cases x with
  | int i =>
    refine iteT ⟨_, rfl, _, _, rfl, rfl, _, rfl, ?_⟩
    have e : belowV b (.int i) = (decide (0 ≤ i) && decide (i < b)) := rfl
    rw [e] at k
    by_cases z : (0 : Int) ≤ i
    · rw [decide_eq_true z] at k ⊢
      exact iteT ⟨_, rfl, _, _, rfl, rfl, k⟩
    · rw [decide_eq_false z] at k ⊢
      exact iteF k
  | bl z => exact iteF k
  | non => exact iteF k
  | str z => exact iteF k
  | flt z => exact iteF k
  | byt z => exact iteF k
  | ref z => exact iteF k
  | ty z => exact iteF k
end
end K26
end
section
set_option maxHeartbeats 4000001
namespace Bn
open PySem L2 Own
theorem idx_cast (k : Nat) : ∀ es : List Nat, (es.map fun (e : Nat) => (e : Int)).idxOf (k : Int) = es.idxOf k
  | [] => rfl
  | e :: es => by
    rw [List.map_cons, List.idxOf_cons, List.idxOf_cons, idx_cast k es]
    have : ((e : Int) == (k : Int)) = (e == k) := by
      rw [Bool.eq_iff_iff, beq_iff_eq]; rw [beq_iff_eq]; lia
    rw [this]
theorem nums_map (es : List Nat) : nums es = (es.map fun (e : Nat) => (e : Int)).map V.int := by unfold nums; rw [List.map_map]; rfl
def spEnd : Sp := fun vs H Q _ => ∃ r fr er ps N, ∃ lane : Nat, vs = [.ref r, .int lane] ∧ Nt.Ok N ∧ NetAt H r fr er ps N ∧ lane < N.lanes ∧ Q (.int (N.ends.idxOf lane : Nat)) H
end Bn
end
section
set_option maxHeartbeats 4000001
namespace K26
open PySem L2 Own Bn
abbrev sEnd : Stmt := top 12
section
variable {P : Program} {w : World} {K : PySem.W.Frag} {mg : Str → Option Value} {base : Heap}
theorem scD : FnScope ["net", "lane"] ["net", "lane"] (defScope sEnd) := ⟨rfl, rfl, rfl, by decide +kernel, rfl, by decide +kernel, by decide +kernel⟩
theorem ok_end {f : Addr} {fd : FuncData} (F : Fun K "end_of" "end_of" sEnd f fd) : FnOk P w K mg base CX0 1 f fd ["net", "lane"] spEnd := by
  refine F.ok scD (fun vs H Q E h => ?_) (fun cdv A outer s H vs Q E hr h => ?_)
  · obtain ⟨r, fr, er, ps, N, lane, rfl, _⟩ := h
    rfl
  obtain ⟨r, fr, er, ps, N, lane, rfl, ok, na, hl, k⟩ := h
  refine ⟨_, (@pss_one _ _ _ (@ps_ret _ _ _ _ (@pe_tidx _ _ _ _ _ _ _ hr.units (@pe_ix _ _ _ _ _ _ _ ix_tup (@pv _ 0 _ _ (by rfl) (by first | exact Or.inl rfl | exact Or.inr (Or.inl rfl) | exact Or.inr (Or.inr rfl)) (by decide) (by decide)) pe_int (fun _ _ => rfl)) (@pa_cons _ _ _ _ _ (@pv _ 1 _ _ (by rfl) (by first | exact Or.inl rfl | exact Or.inr (Or.inl rfl) | exact Or.inr (Or.inr rfl)) (by decide) (by decide)) pa_nil (by rfl)) (by rfl) (by rfl) (by rfl) (by rfl)))), ?_⟩
  have he := na.ends
  rw [nums_map] at he
  refine ⟨_, rfl, r, _, _, _, rfl, rfl, SqT.of na.net, rfl, er, _, rfl, he, _, rfl, (lane : Int), rfl, he, ?_, ?_⟩
  · exact List.mem_map.mpr ⟨lane, ok.en.mem_iff.mpr (List.mem_range.mpr hl), rfl⟩
  · rw [idx_cast]; exact k
end
end K26
end
section
set_option maxHeartbeats 4000001
namespace Bn
open PySem L2 Own
theorem inTwo (h a b : Nat) : inV (V.int h) [V.int a, V.int b] = decide (h = a ∨ h = b) := by
  by_cases e1 : h = a
  · subst e1; simp [inV, eqV]
  · by_cases e2 : h = b
    · subst e2; simp [inV, eqV]
    · have n1 : ¬ ((h : Int) = a) := by lia
      have n2 : ¬ ((h : Int) = b) := by lia
      simp [inV, eqV, e1, e2]; lia
structure IsNext (fs : List (Nat × Nat)) (lane n k : Nat) : Prop where
  from_ : n ≤ k
  upto : k ≤ fs.length
  none : ∀ j g, n ≤ j → j < k → fs[j]? = some g → ¬ (lane = g.1 ∨ lane = g.2)
  here : ∀ g, fs[k]? = some g → lane = g.1 ∨ lane = g.2
theorem IsNext.one {fs : List (Nat × Nat)} {lane n k m : Nat} (h : IsNext fs lane n k) (g : IsNext fs lane n m) : k = m := by
  have go : ∀ k m, IsNext fs lane n k → IsNext fs lane n m → ¬ k < m := fun k m h g z => by
    have kl : k < fs.length := Nat.lt_of_lt_of_le z g.upto
    exact g.none k fs[k] h.from_ z (List.getElem?_eq_getElem kl) (h.here _ (List.getElem?_eq_getElem kl))
  have a := go k m h g
  have b := go m k g h
  lia
structure Grp where
  many : Int
  lane : Nat
  fork : Nat
end Bn
end
section
set_option maxHeartbeats 4000001
namespace K26
open PySem L2 Own Bn
abbrev sNext : Stmt := top 11
def spNext : Sp := fun vs H Q _ => ∃ r fr er ps N, ∃ lane n : Nat, vs = [.ref r, .int lane, .int n] ∧ Nt.Ok N ∧ NetAt H r fr er ps N ∧ n ≤ N.forks.length ∧ ∀ k : Nat, IsNext N.forks lane n k → Q (.int k) H
section
variable {P : Program} {w : World} {K : PySem.W.Frag} {mg : Str → Option Value} {base : Heap}
theorem scNx : FnScope ["net", "lane", "number", "forks"] ["net", "lane", "number"] (defScope sNext) := ⟨rfl, rfl, rfl, by decide +kernel, rfl, by decide +kernel, by decide +kernel⟩
theorem ok_next {f : Addr} {fd : FuncData} (F : Fun K "next_fork" "next_fork" sNext f fd) (G : Mgs mg) : FnOk P w K mg base CX0 1 f fd ["net", "lane", "number"] spNext := by
  refine F.ok scNx (fun vs H Q E h => ?_) (fun cdv A outer s H vs Q E hr h => ?_)
  · obtain ⟨r, fr, er, ps, N, lane, n, rfl, _⟩ := h
    rfl
  obtain ⟨r, fr, er, ps, N, lane, n, rfl, ok, na, nl, k⟩ := h
  refine ⟨_, (@pss_cons _ _ _ _ _ (@ps_set _ _ 3 _ _ _ _ scNx.nd rfl (Or.inl rfl) (@pe_ix _ _ _ _ _ _ _ ix_tup (@pv _ 0 _ _ (by rfl) (by first | exact Or.inl rfl | exact Or.inr (Or.inl rfl) | exact Or.inr (Or.inr rfl)) (by decide) (by decide)) pe_int (fun _ _ => rfl)) (by rfl) (by first | exact .inl rfl | exact .inr rfl | assumption)) (@pss_cons _ _ _ _ _ (@ps_while _ _ _ _ _ _ PassesOwn.never (@pw_and _ _ _ _ _ _ _ (@pt_cmpR _ _ _ _ _ _ _ _ op_lt (@pv _ 2 _ _ (by rfl) (by first | exact Or.inl rfl | exact Or.inr (Or.inl rfl) | exact Or.inr (Or.inr rfl)) (by decide) (by decide)) (@pe_callB _ _ _ _ _ _ _ _ _ call_len_seq (by rfl) G.len PySem.boot_len (@pa_cons _ _ _ _ _ (@pv _ 3 _ _ (by rfl) (by first | exact Or.inl rfl | exact Or.inr (Or.inl rfl) | exact Or.inr (Or.inr rfl)) (by decide) (by decide)) pa_nil (by rfl)) (by decide) (by decide) (by rfl) (by rfl)) (nomark _)) (@pw_and1 _ _ _ _ (@pt_cmpR _ _ _ _ _ _ _ _ op_notIn_seq (@pv _ 1 _ _ (by rfl) (by first | exact Or.inl rfl | exact Or.inr (Or.inl rfl) | exact Or.inr (Or.inr rfl)) (by decide) (by decide)) (@pe_ix _ _ _ _ _ _ _ ix_tup (@pv _ 3 _ _ (by rfl) (by first | exact Or.inl rfl | exact Or.inr (Or.inl rfl) | exact Or.inr (Or.inr rfl)) (by decide) (by decide)) (@pv _ 2 _ _ (by rfl) (by first | exact Or.inl rfl | exact Or.inr (Or.inl rfl) | exact Or.inr (Or.inr rfl)) (by decide) (by decide)) (fun _ _ => rfl)) (by rfl)))).pt (@pss_one _ _ _ (@ps_aug _ _ 2 _ _ _ _ _ _ scNx.nd rfl (Or.inl rfl) pe_int ip_add (by first | exact .inl rfl | exact .inr rfl | assumption)))) (@pss_one _ _ _ (@ps_ret _ _ _ _ (@pv _ 2 _ _ (by rfl) (by first | exact Or.inl rfl | exact Or.inr (Or.inl rfl) | exact Or.inr (Or.inr rfl)) (by decide) (by decide)))))), ?_⟩
  have pl := na.prs.len
  have fm := ok.fm
  refine ⟨_, rfl, r, _, _, _, rfl, rfl, SqT.of na.net, rfl, ?_⟩
  refine ⟨fun m σ H1 => H1 = H ∧ ∃ q : Nat, σ = [some (.ref r), some (.int lane), some (.int q), some (.ref fr)] ∧ n ≤ q ∧ q ≤ N.forks.length ∧ m = N.forks.length - q ∧ ∀ j g, n ≤ j → j < q → N.forks[j]? = some g → ¬ (lane = g.1 ∨ lane = g.2),
    ⟨_, rfl, n, rfl, Nat.le_refl _, nl, rfl, fun j g h1 h2 => by lia⟩, ?_⟩
  rintro m σ H1 ⟨rfl, q, rfl, nq, ql, em, hno⟩
  refine ⟨_, rfl, _, rfl, fr, _, rfl, .inr (SqT.of na.forks), _, _, rfl, rfl, _, rfl, ?_⟩
  by_cases z : q < N.forks.length
  · rw [decide_eq_true (show (q : Int) < ps.length by lia)]
    obtain ⟨a, g, ex, eg, ha⟩ := na.prs.get (i := q) (List.getElem?_eq_getElem (show q < ps.length by lia))
    have hat : atI ps ((q : Nat) : Int) = some (.ref a) := atI_nat (by rw [List.getElem?_eq_getElem (show q < ps.length by lia), ex])
    refine iteT ⟨_, rfl, _, rfl, _, rfl, fr, _, _, _, rfl, rfl, SqT.of na.forks, hat, a, _, rfl, .inr (SqT.of ha), rfl, rfl, _, rfl, ?_⟩
    show if (if true = true then !inV (V.int (lane : Nat)) [V.int (g.1 : Nat), V.int (g.2 : Nat)] else inV (V.int (lane : Nat)) [V.int (g.1 : Nat), V.int (g.2 : Nat)]) = true then _ else _
    rw [if_pos rfl, inTwo]
    by_cases on : lane = g.1 ∨ lane = g.2
    · rw [decide_eq_true on]
      refine iteF ⟨_, rfl, k q ⟨nq, ql, hno, fun g' eg' => ?_⟩⟩
      rw [eg] at eg'; obtain rfl := Option.some.inj eg'; exact on
    · rw [decide_eq_false on]
      refine iteT ⟨_, fun σ' H' hN => ⟨m - 1, by lia, hN⟩, ?_⟩
      refine ⟨_, rfl, _, _, rfl, rfl, rfl, q + 1, rfl, by lia, by lia, by lia, fun j g' h1 h2 h3 => ?_⟩
      by_cases e : j = q
      · subst e; rw [eg] at h3; obtain rfl := Option.some.inj h3; exact on
      · exact hno j g' h1 (by lia) h3
  · rw [decide_eq_false (show ¬ (q : Int) < ps.length by lia)]
    refine iteF (iteF ⟨_, rfl, k q ⟨nq, ql, hno, fun g' eg' => ?_⟩⟩)
    have := (List.getElem?_eq_some_iff.mp eg').1
    lia
end
end K26
end
section
set_option maxHeartbeats 4000001
namespace Ts
open PySem PyProof.Rows
structure Cmp (prog : Program) (w : World) (A : Around) (s : Shared) (κ : SortKind) (P : Keyed → Prop) (rk : Keyed → Int) : Prop where
  ask : ∀ (x y : Keyed), P x → P y → ∀ {Q : Bool → Shared → Prop} {E : Value → Shared → Prop}, Q (decide (rk x < rk y)) s → wpAny (model prog w) A (keyLt' κ x.1 y.1) Q E s
def R (rk : Keyed → Int) (xs : Array Keyed) (i : Nat) : Int := match xs[i]? with
  | some p => rk p
  | none => 0
theorem R_congr {rk : Keyed → Int} {xs ys : Array Keyed} {i j : Nat} (h : xs[i]? = ys[j]?) : R rk xs i = R rk ys j := by unfold R; rw [h]
def Up (rk : Keyed → Int) (xs : Array Keyed) (lo n : Nat) : Prop := ∀ i j, lo ≤ i → i ≤ j → j < lo + n → R rk xs i ≤ R rk xs j
def Dn (rk : Keyed → Int) (xs : Array Keyed) (lo n : Nat) : Prop := ∀ i j, lo ≤ i → i ≤ j → j < lo + n → R rk xs j ≤ R rk xs i
structure Bs (κ : SortKind) (P : Keyed → Prop) (a₀ : Array Keyed) (st : SortSt) : Prop where
  kind : kindOf st = κ
  fail : failedOf st = none
  perm : (arrOf st).Perm a₀
  all : ∀ p ∈ a₀.toList, P p
theorem Bs.size {κ : SortKind} {P : Keyed → Prop} {a₀ : Array Keyed} {st : SortSt} (h : Bs κ P a₀ st) : (arrOf st).size = a₀.size := h.perm.size_eq
theorem Bs.at {κ : SortKind} {P : Keyed → Prop} {a₀ : Array Keyed} {st : SortSt} (h : Bs κ P a₀ st) {i : Nat} (hi : i < a₀.size) (rk : Keyed → Int) : ∃ p, (arrOf st)[i]? = some p ∧ P p ∧ R rk (arrOf st) i = rk p := by
  have e : (arrOf st)[i]? = some ((arrOf st)[i]'(by rw [h.size]; exact hi)) := getElem?_pos (arrOf st) i (by rw [h.size]; exact hi)
  refine ⟨_, e, h.all _ ((Array.perm_iff_toList_perm.mp h.perm).mem_iff.mp (by simp)), ?_⟩
  unfold R; rw [e]
theorem Bs.arr {κ : SortKind} {P : Keyed → Prop} {a₀ : Array Keyed} {st : SortSt} (h : Bs κ P a₀ st) {xs : Array Keyed} (hp : xs.Perm (arrOf st)) : Bs κ P a₀ (setArr st xs) := ⟨h.kind, h.fail, hp.trans h.perm, h.all⟩
section
variable {prog : Program} {w : World} {A : Around} {E : Value → Shared → Prop} {s : Shared} {κ : SortKind} {P : Keyed → Prop} {rk : Keyed → Int} {a₀ : Array Keyed}
theorem lt_of (C : Cmp prog w A s κ P rk) {st : SortSt} {x y : Keyed} {Q : Option Bool → SortSt → Prop} (hk : kindOf st = κ) (px : P x) (py : P y) (h : Q (some (decide (rk x < rk y))) st) : wpS (model prog w) A E s (lt' x y) Q st := by
  rw [lt'_eq]
  refine wpS_bind (wpS_get (wpS_bind (wpS_lift (wpAny_attempt ?_))))
  rw [hk]
  exact C.ask x y px py ⟨rfl, wpS_pure h⟩
theorem rule_of {r : String} {st : SortSt} {Q : Unit → SortSt → Prop} (h : Q () st) : wpS (model prog w) A E s (liftM (rule r) : StateT SortSt Sem Unit) Q st := wpS_lift (wpAny_rule ⟨rfl, h⟩)
theorem elem_of {st : SortSt} {arr : Array Keyed} {i : Nat} {p : Keyed} {Q : Keyed → SortSt → Prop} (e : arr[i]? = some p) (h : Q p st) : wpS (model prog w) A E s (elem' arr i) Q st := by
  rw [elem'_eq, e]; exact wpS_pure h
theorem lt_at (C : Cmp prog w A s κ P rk) {st : SortSt} {i j : Nat} {Q : Option Bool → SortSt → Prop} (hB : Bs κ P a₀ st) (hi : i < a₀.size) (hj : j < a₀.size) (h : Q (some (decide (R rk (arrOf st) i < R rk (arrOf st) j))) st) : wpS (model prog w) A E s (ltAt' i j) Q st := by
  obtain ⟨p, e1, pp, r1⟩ := hB.at hi rk
  obtain ⟨q, e2, pq, r2⟩ := hB.at hj rk
  rw [r1, r2] at h
  rw [ltAt'_eq]
  exact wpS_bind (wpS_get (wpS_bind (elem_of e1 (wpS_bind (elem_of e2 (lt_of C hB.kind pp pq h))))))
structure Keep (κ : SortKind) (P : Keyed → Prop) (rk : Keyed → Int) (a₀ : Array Keyed) (lo : Nat) (st st' : SortSt) : Prop where
  b : Bs κ P a₀ st'
  pend : pendingOf st' = pendingOf st
  low : ∀ k, k < lo → R rk (arrOf st') k = R rk (arrOf st) k
theorem Keep.refl {lo : Nat} {st : SortSt} (h : Bs κ P a₀ st) : Keep κ P rk a₀ lo st st := ⟨h, rfl, fun _ _ => rfl⟩
theorem Keep.trans {lo : Nat} {st st1 st2 : SortSt} (h : Keep κ P rk a₀ lo st st1) (g : Keep κ P rk a₀ lo st1 st2) : Keep κ P rk a₀ lo st st2 := ⟨g.b, g.pend.trans h.pend, fun k hk => (g.low k hk).trans (h.low k hk)⟩
theorem R_mirror {xs : Array Keyed} {i j : Nat} (hj : j ≤ xs.size) (k : Nat) : R rk (mirror xs i j ((j - i) / 2)) k = if i ≤ k ∧ k < j then R rk xs (i + j - 1 - k) else R rk xs k := by
  have e := getElem?_mirror_all (xs := xs) (i := i) hj k
  split at e
  · next h => rw [if_pos h]; exact R_congr e
  · next h => rw [if_neg h]; exact R_congr e
theorem rev_of {lo i j : Nat} {st : SortSt} {Q : Unit → SortSt → Prop} (hB : Bs κ P a₀ st) (hl : lo ≤ i) (hj : j ≤ a₀.size)
    (h : ∀ st', Keep κ P rk a₀ lo st st' → (∀ k, R rk (arrOf st') k = if i ≤ k ∧ k < j then R rk (arrOf st) (i + j - 1 - k) else R rk (arrOf st) k) → Q () st') : wpS (model prog w) A E s (reverseSlice' i j) Q st := by
  rw [reverseSlice'_eq]
  refine wpS_modify (h _ ⟨hB.arr (mirror_perm _ _ _ _), rfl, fun k hk => ?_⟩ fun k => ?_)
  · show R rk (mirror (arrOf st) i j ((j - i) / 2)) k = _
    rw [R_mirror (by rw [hB.size]; exact hj), if_neg (by lia)]
  · exact R_mirror (by rw [hB.size]; exact hj) k
theorem count_ok (C : Cmp prog w A s κ P rk) {st : SortSt} {lo nrem : Nat} {Q : Option Nat → SortSt → Prop} (hB : Bs κ P a₀ st) (h1 : 1 ≤ nrem) (hn : lo + nrem ≤ a₀.size)
    (h : ∀ st' m, Keep κ P rk a₀ lo st st' → 1 ≤ m → m ≤ nrem → Up rk (arrOf st') lo m → Q (some m) st') : wpS (model prog w) A E s (countRun' lo nrem) Q st := by
  have asc : ∀ (st : SortSt) (n0 : Nat) {Q' : Option (Option Nat) × Nat → SortSt → Prop}, Bs κ P a₀ st → 1 ≤ n0 → Up rk (arrOf st) lo n0 →
      (∀ n, n0 ≤ n → n ≤ max n0 nrem → Up rk (arrOf st) lo n → (n < nrem → R rk (arrOf st) (lo + n) < R rk (arrOf st) (lo + n - 1)) → Q' (none, n) st) → 
      ∀ f : Nat → Option (Option Nat) × Nat → StateT SortSt Sem (ForInStep (Option (Option Nat) × Nat)), (∀ i n, f i (none, n) = (do
        let some smaller ← ltAt' (lo + n) (lo + n - 1) | pure (.done (some none, n))
        if smaller then pure (.done (none, n)) else pure (.yield (none, n + 1)))) → wpS (model prog w) A E s (forIn [n0:nrem] (none, n0) f) Q' st := by
    intro st n0 Q' hB h0 hu hq f hf
    refine wpS_forRange (I := fun i c st' => st' = st ∧ c = (none, i) ∧ n0 ≤ i ∧ Up rk (arrOf st) lo i) ?_ ?_ ⟨rfl, rfl, Nat.le_refl _, hu⟩
    · rintro i c st' hi hi2 ⟨rfl, rfl, h3, hu'⟩
      rw [hf]
      refine wpS_bind (lt_at C hB (by lia) (by lia) ?_)
      by_cases z : R rk (arrOf st') (lo + i) < R rk (arrOf st') (lo + i - 1)
      · rw [decide_eq_true z]
        exact wpS_pure (hq i h3 (by lia) hu' fun _ => z)
      · rw [decide_eq_false z]
        refine wpS_pure ⟨rfl, rfl, by lia, fun a b ha hab hb => ?_⟩
        by_cases q : b < lo + i
        · exact hu' a b ha hab q
        · obtain rfl : b = lo + i := by lia
          by_cases q2 : a = lo + i
          · rw [q2]; exact Int.le_refl _
          · have := hu' a (lo + i - 1) ha (by lia) (by lia)
            lia
    · rintro c st' ⟨rfl, rfl, h3, hu'⟩
      exact hq _ h3 (Nat.le_refl _) hu' fun q => by lia
  rw [countRun'_eq]
  refine wpS_bind (asc st 1 hB (Nat.le_refl _) (fun a b h1 h2 h3 => by rw [show a = b by lia]; exact Int.le_refl _) (fun n n1 n2 hu hs => ?_) _ (fun i n => rfl))
  dsimp only
  by_cases z : n = nrem
  · subst z
    rw [if_pos (beq_self_eq_true _)]
    exact wpS_pure (h _ _ (Keep.refl hB) n1 (Nat.le_refl _) hu)
  rw [if_neg (by simpa using z)]
  have nl : n < nrem := by lia
  have hs := hs nl
  generalize hT : (bind (liftM (rule "list.sort.descending-run")) _ : StateT SortSt Sem (Option Nat)) = T
  have tail : ∀ st1, Keep κ P rk a₀ lo st st1 → Dn rk (arrOf st1) lo n → R rk (arrOf st1) (lo + n) < R rk (arrOf st1) (lo + n - 1) → wpS (model prog w) A E s T Q st1 := by
    intro st1 K1 d1 l1
    rw [← hT]
    refine wpS_bind (rule_of ?_)
    have last : ∀ st2 m, Keep κ P rk a₀ lo st st2 → 1 ≤ m → m ≤ nrem → Dn rk (arrOf st2) lo m → ∀ st3, Keep κ P rk a₀ lo st2 st3 → (∀ k, R rk (arrOf st3) k = if lo ≤ k ∧ k < lo + m then R rk (arrOf st2) (lo + (lo + m) - 1 - k) else R rk (arrOf st2) k) → Up rk (arrOf st3) lo m := by
      intro st2 m K2 m1 m2 d2 st3 K3 r3 a b ha hab hb
      rw [r3, r3, if_pos ⟨by lia, by lia⟩, if_pos ⟨by lia, by lia⟩]
      exact d2 _ _ (by lia) (by lia) (by lia)
    refine wpS_bind (wpS_mono (wpS_forRange (I := fun i c st2 => ∃ m q, c = (none, m, q) ∧ m = i ∧ q + 1 ≤ m ∧ Keep κ P rk a₀ lo st st2 ∧ (i ≤ nrem → Dn rk (arrOf st2) lo m ∧ ∀ k, lo + m - (q + 1) ≤ k → k < lo + m → R rk (arrOf st2) k = R rk (arrOf st2) (lo + m - 1)))
      (Q := fun c st2 => ∃ m q, c = (none, m, q) ∧ 1 ≤ m ∧ m ≤ nrem ∧ q + 1 ≤ m ∧ Keep κ P rk a₀ lo st st2 ∧ Dn rk (arrOf st2) lo m ∧ ∀ k, lo + m - (q + 1) ≤ k → k < lo + m → R rk (arrOf st2) k = R rk (arrOf st2) (lo + m - 1)) ?step ?fin ?init) ?post)
    case init =>
      refine ⟨n + 1, 0, rfl, rfl, by lia, K1, fun _ => ⟨fun a b ha hab hb => ?_, fun k k1 k2 => by rw [show k = lo + (n + 1) - 1 by lia]⟩⟩
      by_cases q : b < lo + n
      · exact d1 a b ha hab q
      · obtain rfl : b = lo + n := by lia
        by_cases q2 : a = lo + n
        · rw [q2]; exact Int.le_refl _
        · have := d1 a (lo + n - 1) ha (by lia) (by lia)
          lia
    case fin =>
      rintro c st2 ⟨m, q, rfl, e, hq, K2, hd⟩
      obtain ⟨d2, eq2⟩ := hd (by lia)
      exact ⟨m, q, rfl, by lia, by lia, hq, K2, d2, eq2⟩
    case step =>
      rintro i c st2 hi hi2 ⟨m, q, rfl, rfl, hq, K2, hd⟩
      obtain ⟨d2, eq2⟩ := hd (by lia)
      dsimp only
      refine wpS_bind (lt_at C K2.b (by lia) (by lia) ?_)
      have more : ∀ st3, Dn rk (arrOf st3) lo m → R rk (arrOf st3) (lo + m) ≤ R rk (arrOf st3) (lo + m - 1) → Dn rk (arrOf st3) lo (m + 1) := by
        intro st3 d3 le a b ha hab hb
        by_cases q : b < lo + m
        · exact d3 a b ha hab q
        · obtain rfl : b = lo + m := by lia
          by_cases q2 : a = lo + m
          · rw [q2]; exact Int.le_refl _
          · have := d3 a (lo + m - 1) ha (by lia) (by lia)
            lia
      by_cases z1 : R rk (arrOf st2) (lo + m) < R rk (arrOf st2) (lo + m - 1)
      · rw [decide_eq_true z1]
        dsimp only
        rw [if_pos rfl]
        by_cases zq : q > 0
        · rw [if_pos zq]
          refine wpS_bind (rev_of (rk := rk) (lo := lo) K2.b (by lia) (by lia) fun st3 K3 r3 => wpS_pure ?_)
          have same : ∀ k, R rk (arrOf st3) k = R rk (arrOf st2) k := fun k => by
            rw [r3]
            split
            · rw [eq2 _ (by lia) (by lia), eq2 k (by lia) (by lia)]
            · rfl
          refine ⟨m + 1, 0, rfl, rfl, by lia, K2.trans K3, fun _ => ⟨more st3 (fun a b ha hab hb => by rw [same, same]; exact d2 a b ha hab hb) (by rw [same, same]; lia), fun k k1 k2 => by rw [show k = lo + (m + 1) - 1 by lia]⟩⟩
        · rw [if_neg zq]
          exact wpS_pure ⟨m + 1, 0, rfl, rfl, by lia, K2, fun _ => ⟨more st2 d2 (by lia), fun k k1 k2 => by rw [show k = lo + (m + 1) - 1 by lia]⟩⟩
      · rw [decide_eq_false z1]
        dsimp only
        rw [if_neg Bool.false_ne_true]
        refine wpS_bind (lt_at C K2.b (by lia) (by lia) ?_)
        by_cases z2 : R rk (arrOf st2) (lo + m - 1) < R rk (arrOf st2) (lo + m)
        · rw [decide_eq_true z2]
          dsimp only
          rw [if_pos rfl]
          exact wpS_pure ⟨m, q, rfl, by lia, by lia, hq, K2, d2, eq2⟩
        · rw [decide_eq_false z2]
          dsimp only
          rw [if_neg Bool.false_ne_true]
          have e : R rk (arrOf st2) (lo + m) = R rk (arrOf st2) (lo + m - 1) := by lia
          refine wpS_pure ⟨m + 1, q + 1, rfl, rfl, by lia, K2, fun _ => ⟨more st2 d2 (by lia), fun k k1 k2 => ?_⟩⟩
          rw [show lo + (m + 1) - 1 = lo + m by lia]
          by_cases q3 : k = lo + m
          · rw [q3]
          · rw [eq2 k (by lia) (by lia), e]
    case post =>
      rintro c st2 ⟨m, q, rfl, m1, m2, hq, K2, d2, eq2⟩
      dsimp only
      generalize hT2 : (bind (reverseSlice' lo (lo + m)) _ : StateT SortSt Sem (Option Nat)) = T2
      have on : ∀ st3, Keep κ P rk a₀ lo st st3 → Dn rk (arrOf st3) lo m → wpS (model prog w) A E s T2 Q st3 := by
        intro st3 K3 d3
        rw [← hT2]
        refine wpS_bind (rev_of (rk := rk) (lo := lo) K3.b (by lia) (by lia) fun st4 K4 r4 => ?_)
        refine wpS_bind (asc st4 m K4.b m1 (last st3 m K3 m1 m2 d3 st4 K4 r4) (fun n' a1 a2 hu' _ => ?_) _ (fun i n => rfl))
        exact wpS_pure (h _ _ (K3.trans K4) (by lia) (by lia) hu')
      by_cases zq : q > 0
      · rw [if_pos zq]
        refine wpS_bind (rev_of (rk := rk) (lo := lo) K2.b (by lia) (by lia) fun st3 K3 r3 => ?_)
        have same : ∀ k, R rk (arrOf st3) k = R rk (arrOf st2) k := fun k => by
          rw [r3]
          split
          · rw [eq2 _ (by lia) (by lia), eq2 k (by lia) (by lia)]
          · rfl
        exact on st3 (K2.trans K3) (fun a b ha hab hb => by rw [same, same]; exact d2 a b ha hab hb)
      · rw [if_neg zq]
        exact on st2 K2 d2
  by_cases z2 : n > 1
  · rw [if_pos z2]
    refine wpS_bind (lt_at C hB (by lia) (by lia) ?_)
    by_cases z3 : R rk (arrOf st) lo < R rk (arrOf st) (lo + n - 1)
    · rw [decide_eq_true z3]
      exact wpS_pure (h _ _ (Keep.refl hB) n1 (by lia) hu)
    · rw [decide_eq_false z3]
      dsimp only
      rw [if_neg Bool.false_ne_true]
      refine wpS_bind (rev_of (rk := rk) (lo := lo) hB (by lia) (by lia) fun st1 K1 r1 => tail st1 K1 (fun a b ha hab hb => ?_) ?_)
      · rw [r1, r1, if_pos ⟨by lia, by lia⟩, if_pos ⟨by lia, by lia⟩]
        exact hu _ _ (by lia) (by lia) (by lia)
      · rw [r1, r1, if_neg (by lia), if_pos ⟨by lia, by lia⟩]
        have := hu (lo + (lo + n) - 1 - (lo + n - 1)) (lo + n - 1) (by lia) (by lia) (by lia)
        have e : lo + (lo + n) - 1 - (lo + n - 1) = lo := by lia
        rw [e] at this ⊢
        have := hu lo (lo + n - 1) (by lia) (by lia) (by lia)
        lia
  · rw [if_neg z2]
    exact tail st (Keep.refl hB) (fun a b ha hab hb => by rw [show a = b by lia]; exact Int.le_refl _) hs
end
end Ts
end
section
set_option maxHeartbeats 4000001
namespace Ts
open PySem PyProof.Rows
section
variable {prog : Program} {w : World} {A : Around} {E : Value → Shared → Prop} {s : Shared} {κ : SortKind} {P : Keyed → Prop} {rk : Keyed → Int} {a₀ : Array Keyed}
theorem R_bubble {xs : Array Keyed} {src d : Nat} (hs : src < xs.size) (hd : d ≤ src) (k : Nat) : R rk (bubble xs src d) k = if k = src - d then R rk xs src else if src - d < k ∧ k ≤ src then R rk xs (k - 1) else R rk xs k := by
  have e := getElem?_bubble (xs := xs) hs d hd k
  by_cases h1 : k = src - d
  · rw [if_pos h1] at e ⊢; exact R_congr e
  · rw [if_neg h1] at e ⊢
    by_cases h2 : (src - d < k ∧ k ≤ src)
    · rw [if_pos h2] at e ⊢; exact R_congr e
    · rw [if_neg h2] at e ⊢; exact R_congr e
theorem bin_ok (C : Cmp prog w A s κ P rk) {st : SortSt} {lo n ok : Nat} {Q : Bool → SortSt → Prop} (hB : Bs κ P a₀ st) (h1 : 1 ≤ ok) (hok : ok ≤ n) (hn : lo + n ≤ a₀.size) (hu : Up rk (arrOf st) lo ok)
    (h : ∀ st', Keep κ P rk a₀ lo st st' → Up rk (arrOf st') lo n → Q true st') : wpS (model prog w) A E s (binarySort' lo n ok) Q st := by
  rw [binarySort'_eq]
  rw [show max ok 1 = ok by lia]
  refine wpS_bind (wpS_mono (wpS_forRange (I := fun k c st1 => c = (none, ()) ∧ Keep κ P rk a₀ lo st st1 ∧ Up rk (arrOf st1) lo (min k n)) (Q := fun c st1 => c = (none, ()) ∧ Keep κ P rk a₀ lo st st1 ∧ Up rk (arrOf st1) lo n) ?step ?fin ?init) ?post)
  case init => exact ⟨rfl, Keep.refl hB, by rwa [Nat.min_eq_left hok]⟩
  case fin =>
    rintro c st1 ⟨rfl, K1, u1⟩
    rw [show min (max ok n) n = n by lia] at u1
    exact ⟨rfl, K1, u1⟩
  case post =>
    rintro c st1 ⟨rfl, K1, u1⟩
    exact wpS_pure (h st1 K1 u1)
  case step =>
    rintro k c st1 hk1 hk2 ⟨rfl, K1, u1⟩
    rw [show min k n = k by lia] at u1
    refine wpS_bind (wpS_mono (wpS_forRange (I := fun x c st2 => st2 = st1 ∧ ∃ l r, c = (none, l, r) ∧ l ≤ r ∧ r ≤ k ∧ r - l ≤ k - x ∧ (∀ i, lo ≤ i → i < lo + l → R rk (arrOf st1) i ≤ R rk (arrOf st1) (lo + k)) ∧ (∀ i, lo + r ≤ i → i < lo + k → R rk (arrOf st1) (lo + k) ≤ R rk (arrOf st1) i))
      (Q := fun c st2 => st2 = st1 ∧ ∃ l r, c = (none, l, r) ∧ l ≤ k ∧ (∀ i, lo ≤ i → i < lo + l → R rk (arrOf st1) i ≤ R rk (arrOf st1) (lo + k)) ∧ (∀ i, lo + l ≤ i → i < lo + k → R rk (arrOf st1) (lo + k) ≤ R rk (arrOf st1) i)) ?istep ?ifin ?iinit) ?ipost)
    case iinit => exact ⟨rfl, 0, k, rfl, by lia, by lia, by lia, fun i _ _ => by lia, fun i _ _ => by lia⟩
    case ifin =>
      rintro c st2 ⟨rfl, l, r, rfl, lr, rk', m, h2, h3⟩
      obtain rfl : l = r := by lia
      exact ⟨rfl, l, l, rfl, rk', h2, h3⟩
    case istep =>
      rintro x c st2 _ hx ⟨rfl, l, r, rfl, lr, rk', m, h2, h3⟩
      dsimp only
      by_cases ge : l ≥ r
      · rw [if_pos ge]
        obtain rfl : l = r := by lia
        exact wpS_pure ⟨rfl, l, l, rfl, rk', h2, h3⟩
      · rw [if_neg ge]
        refine wpS_bind (lt_at C K1.b (by lia) (by lia) ?_)
        by_cases z : R rk (arrOf st2) (lo + k) < R rk (arrOf st2) (lo + (l + r) / 2)
        · rw [decide_eq_true z]
          refine wpS_pure ⟨rfl, l, (l + r) / 2, rfl, by lia, by lia, by lia, h2, fun i i1 i2 => ?_⟩
          have := u1 (lo + (l + r) / 2) i (by lia) i1 (by lia)
          lia
        · rw [decide_eq_false z]
          refine wpS_pure ⟨rfl, (l + r) / 2 + 1, r, rfl, by lia, by lia, by lia, fun i i1 i2 => ?_, h3⟩
          have := u1 i (lo + (l + r) / 2) i1 (by lia) (by lia)
          lia
    case ipost =>
      rintro c st2 ⟨rfl, l, r, rfl, lk, h2, h3⟩
      dsimp only
      rw [moveDown'_eq]
      have sz := K1.b.size
      have rb : ∀ j, R rk (arrOf (setArr st2 (bubble (arrOf st2) (lo + k) (lo + k - (lo + l))))) j = if j = lo + l then R rk (arrOf st2) (lo + k) else if lo + l < j ∧ j ≤ lo + k then R rk (arrOf st2) (j - 1) else R rk (arrOf st2) j := fun j => by
        have := R_bubble (rk := rk) (xs := arrOf st2) (src := lo + k) (d := lo + k - (lo + l)) (by rw [sz]; lia) (by lia) j
        rw [show lo + k - (lo + k - (lo + l)) = lo + l by lia] at this
        exact this
      refine wpS_bind (wpS_modify (wpS_pure ⟨rfl, K1.trans ⟨K1.b.arr (bubble_perm _ _ _), rfl, fun j hj => ?_⟩, fun i j hi hij hj => ?_⟩))
      · rw [rb, if_neg (by lia), if_neg (by lia)]
      · rw [show min (k + 1) n = k + 1 by lia] at hj
        rw [rb, rb]
        by_cases a1 : i = lo + l
        · rw [if_pos a1]
          by_cases b1 : j = lo + l
          · rw [if_pos b1]; exact Int.le_refl _
          · rw [if_neg b1, if_pos ⟨by lia, by lia⟩]
            exact h3 _ (by lia) (by lia)
        · rw [if_neg a1]
          by_cases a2 : lo + l < i ∧ i ≤ lo + k
          · rw [if_pos a2, if_neg (by lia), if_pos ⟨by lia, by lia⟩]
            exact u1 _ _ (by lia) (by lia) (by lia)
          · rw [if_neg a2]
            by_cases b1 : j = lo + l
            · rw [if_pos b1]; exact h2 _ hi (by lia)
            · rw [if_neg b1]
              by_cases b2 : lo + l < j ∧ j ≤ lo + k
              · rw [if_pos b2]; exact u1 _ _ hi (by lia) (by lia)
              · rw [if_neg b2]; exact u1 _ _ hi hij (by lia)
end
end Ts
end
section
set_option maxHeartbeats 4000001
namespace Ts
open PySem PyProof.Rows
def bd (left : Bool) (k r : Int) : Bool := if left = true then decide (r < k) else !decide (k < r)
section
variable {prog : Program} {w : World} {A : Around} {E : Value → Shared → Prop} {s : Shared} {κ : SortKind} {P : Keyed → Prop} {rk : Keyed → Int} {a₀ : Array Keyed}
end
end Ts
end
section
set_option maxHeartbeats 4000001
namespace Ts
open PySem PyProof.Rows
def Srt (rk : Keyed → Int) (l : List Keyed) : Prop := l.Pairwise fun x y => rk x ≤ rk y
section
variable {rk : Keyed → Int} {T out a b c : List Keyed}
theorem R_at {arr : Array Keyed} {i : Nat} {p : Keyed} (e : arr[i]? = some p) : R rk arr i = rk p := by unfold R; rw [e]
end
section
variable {rk : Keyed → Int} {T : List Keyed} {out a b : Array Keyed} {ia ib k : Nat} {p q : Keyed}
end
end Ts
end
section
set_option maxHeartbeats 4000001
namespace Ts
open PySem PyProof.Rows
section
variable {prog : Program} {w : World} {A : Around} {E : Value → Shared → Prop} {s : Shared} {κ : SortKind} {P : Keyed → Prop} {rk : Keyed → Int} {a₀ : Array Keyed}
end
end Ts
end
section
set_option maxHeartbeats 4000001
namespace Ts
open PySem PyProof.Rows
section
variable {rk : Keyed → Int} {T out a b c : List Keyed}
theorem cut_of (arr : Array Keyed) (n : Nat) : (arr.extract 0 n).toList = arr.toList.take n := by
  rw [Array.toList_extract, List.extract_eq_take_drop, List.drop_zero, Nat.sub_zero]
end
section
variable {rk : Keyed → Int} {T : List Keyed} {out a b : Array Keyed} {na nb i : Nat} {p q : Keyed}
end
section
variable {prog : Program} {w : World} {A : Around} {E : Value → Shared → Prop} {s : Shared} {κ : SortKind} {P : Keyed → Prop} {rk : Keyed → Int} {a₀ : Array Keyed}
end
end Ts
end
section
set_option maxHeartbeats 4000001
namespace Ts
open PySem PyProof.Rows
section
variable {rk : Keyed → Int}
theorem srt_of {arr : Array Keyed} {lo n : Nat} (h : Up rk arr lo n) (hn : lo + n ≤ arr.size) : Srt rk (arr.extract lo (lo + n)).toList := by
  refine List.pairwise_iff_getElem.mpr fun i j hi hj ij => ?_
  have hs : (arr.extract lo (lo + n)).size = n := by rw [Array.size_extract]; lia
  rw [Array.length_toList, hs] at hi hj
  have := h (lo + i) (lo + j) (by lia) (by lia) (by lia)
  rw [R_at (getElem?_pos arr (lo + i) (by lia)), R_at (getElem?_pos arr (lo + j) (by lia))] at this
  simpa using this
end
section
variable {prog : Program} {w : World} {A : Around} {E : Value → Shared → Prop} {s : Shared} {κ : SortKind} {P : Keyed → Prop} {rk : Keyed → Int} {a₀ : Array Keyed}
end
end Ts
end
section
set_option maxHeartbeats 4000001
namespace Ts
open PySem PyProof.Rows
section
variable {prog : Program} {w : World} {A : Around} {E : Value → Shared → Prop} {s : Shared} {κ : SortKind} {P : Keyed → Prop} {rk : Keyed → Int} {a₀ : Array Keyed}
theorem runs_ok (C : Cmp prog w A s κ P rk) {st : SortSt} {Q : Unit → SortSt → Prop} (hs : a₀.size < 64) (hB : Bs κ P a₀ st) (hp : pendingOf st = #[])
    (h : ∀ st', Bs κ P a₀ st' → Up rk (arrOf st') 0 a₀.size → Q () st') : wpS (model prog w) A E s sortRuns' Q st := by
  rw [sortRuns'_eq]
  refine wpS_bind (wpS_get ?_)
  dsimp only
  rw [hB.size]
  have mr : ∀ n, n < 64 → minRun' n n 0 = n := fun n hn => by
    cases n with
    | zero => rfl
    | succ n => rw [minRun'_succ, if_pos hn]
  rw [mr _ hs]
  refine wpS_bind (wpS_mono (wpS_forRange (I := fun i c st1 => ∃ lo, c = (none, lo) ∧ ((lo = 0 ∧ i = 0 ∧ Bs κ P a₀ st1 ∧ pendingOf st1 = #[]) ∨ (lo = a₀.size ∧ Bs κ P a₀ st1 ∧ (pendingOf st1).size ≤ 1 ∧ Up rk (arrOf st1) 0 a₀.size)))
    (Q := fun c st1 => ∃ lo, c = (none, lo) ∧ Bs κ P a₀ st1 ∧ (pendingOf st1).size ≤ 1 ∧ Up rk (arrOf st1) 0 a₀.size) ?step ?fin ?init) ?post)
  case init => exact ⟨0, rfl, .inl ⟨rfl, rfl, hB, hp⟩⟩
  case fin =>
    rintro c st1 ⟨lo, rfl, ⟨_, z, b, p⟩ | ⟨_, b, p, u⟩⟩
    · exact ⟨lo, rfl, b, by rw [p]; exact Nat.zero_le _, fun c d hc hcd hd => by lia⟩
    · exact ⟨lo, rfl, b, p, u⟩
  case step =>
    rintro i c st1 _ hi ⟨lo, rfl, ⟨rfl, rfl, b, p⟩ | ⟨rfl, b, p, u⟩⟩
    · dsimp only
      rw [if_neg (show ¬ 0 ≥ a₀.size by lia)]
      refine wpS_bind (count_ok C b (by lia) (by lia) fun st2 n K2 n1 n2 u2 => ?_)
      dsimp only
      have last : ∀ st4, Bs κ P a₀ st4 → pendingOf st4 = #[] → Up rk (arrOf st4) 0 a₀.size → wpS (model prog w) A E s (do
          modify fun st5 => setPending st5 ((pendingOf st5).push (0, a₀.size, 0))
          pure (ForInStep.yield ((none : Option Unit), 0 + a₀.size))) (fun r st' => match r with | .done c' => ∃ lo, c' = (none, lo) ∧ Bs κ P a₀ st' ∧ (pendingOf st').size ≤ 1 ∧ Up rk (arrOf st') 0 a₀.size | .yield c' => ∃ lo, c' = (none, lo) ∧ ((lo = 0 ∧ 0 + 1 = 0 ∧ Bs κ P a₀ st' ∧ pendingOf st' = #[]) ∨ (lo = a₀.size ∧ Bs κ P a₀ st' ∧ (pendingOf st').size ≤ 1 ∧ Up rk (arrOf st') 0 a₀.size))) st4 := by
        intro st4 b4 p4 u4
        refine wpS_bind (wpS_modify (wpS_pure ⟨0 + a₀.size, rfl, .inr ⟨Nat.zero_add _, ⟨b4.kind, b4.fail, b4.perm, b4.all⟩, ?_, u4⟩⟩))
        show ((pendingOf st4).push (0, a₀.size, 0)).size ≤ 1
        rw [p4]; exact Nat.le_refl _
      by_cases zm : n < a₀.size
      · rw [if_pos zm]
        refine wpS_bind (rule_of ?_)
        refine wpS_bind (bin_ok C K2.b n1 (by lia) (by lia) u2 fun st3 K3 u3 => ?_)
        have em : min (a₀.size - 0) a₀.size = a₀.size := by lia
        rw [em] at u3 ⊢
        rw [if_neg (show ¬ (!true) = true by decide)]
        refine wpS_bind (wpS_get ?_)
        have p3 : pendingOf st3 = #[] := by rw [K3.pend, K2.pend, p]
        rw [p3]
        exact last st3 K3.b p3 u3
      · rw [if_neg zm]
        have en : n = a₀.size := by lia
        subst en
        refine wpS_bind (wpS_get ?_)
        have p3 : pendingOf st2 = #[] := by rw [K2.pend, p]
        rw [p3]
        exact last st2 K2.b p3 u2
    · dsimp only
      rw [if_pos (Nat.le_refl _)]
      exact wpS_pure ⟨_, rfl, b, p, u⟩
  case post =>
    rintro c st1 ⟨lo, rfl, b, p, u⟩
    dsimp only
    refine wpS_bind (wpS_mono (wpS_forRange (I := fun i c st2 => c = (none, ()) ∧ st2 = st1) (Q := fun c st2 => c = (none, ()) ∧ st2 = st1) ?_ (fun c st2 hh => hh) ⟨rfl, rfl⟩) ?_)
    · rintro i c st2 _ hi ⟨rfl, rfl⟩
      refine wpS_bind (wpS_get ?_)
      rw [if_pos p]
      exact wpS_pure ⟨rfl, rfl⟩
    · rintro c st2 ⟨rfl, rfl⟩
      exact wpS_pure (h st2 b u)
end
end Ts
end
section
set_option maxHeartbeats 4000001
namespace L2
open PySem PySem.Spec PyProof.Rows Own
theorem dk_empty {P : Program} {w : World} {H : Hp} (h : Heap) (hb : sysModules < h.objs.size) : ObjOk P w H (h.push { cls := .type "dict", data := .dict #[] }) h.objs.size (.dK []) :=
  ⟨Nat.zero_le _, beq_eq_false_iff_ne.mpr (Ne.symm (Nat.ne_of_lt hb)), [], .nil, Heap.DictOf.new h⟩
def tDNewK : TE := fun _ H Q => ∀ p, H p = none → Q (.ref p) (upd H p (.dK []))
section
variable {X : Cx} {pos : Pos}
theorem Inv.big {pins : List (Addr × Obj)} {σ : St} {H : Hp} {s : Shared} (I : Inv X pins σ H s) : sysModules < s.heap.objs.size := by
  have h : mainGlobals < s.heap.objs.size := (I.mod.glob.keeps I.bk).lt
  exact Nat.lt_trans (by decide) h
theorem pe_dnewK : PE X (.Dict [] [] pos) tDNewK := fun pins s σ H Q I h =>
  wpAny_Dict_empty ⟨.ref s.heap.objs.size, _, I.laid (a := s.heap.objs.size) (o := .dK []) (t' := s.toks) (fun _ _ q => Heap.get?_push_of_some _ q) (Nat.le_refl _) (dk_empty s.heap I.big), rfl, h _ (I.hok.fresh (Nat.le_refl _))⟩
end
end L2
namespace Bn
open PySem L2 Own
end Bn
end
section
set_option maxHeartbeats 4000001
namespace L2
open PySem PySem.Spec PyProof.Rows Own
def LtAt (A : Around) (s : Shared) (y x : Value) (b : Bool) : Prop := ∀ (prog : Program) (w : World) (E : Value → Shared → Prop) (Q : Value → Shared → Prop), Q (.bool b) s → wpAny (model prog w) A (richCompare .Lt y x) Q E s
theorem LtAt.ints {A : Around} {s : Shared} (a b : Int) (t u : Tok) : LtAt A s (.int a t) (.int b u) (decide (a < b)) := fun _ _ _ _ h => lt_int h
theorem ltTup_meets (l b : Addr) (xs ys : Array Value) (n m : Nat) (d1 d2 : Option Addr) (sl1 sl2 : Array (Option Value)) (k : Nat) (k1 : k < xs.size) (k2 : k < ys.size) (c : Bool) :
    Meets (Builtin.«tuple.__lt__» ⟨[.ref l, .ref b], []⟩)
      (fun A R s => s.heap.get? l = some { cls := .type "tuple", dict := d1, data := .seq xs n, slots := sl1 } ∧ s.heap.get? b = some { cls := .type "tuple", dict := d2, data := .seq ys m, slots := sl2 } ∧
        (∀ j (h1 : j < xs.size) (h2 : j < ys.size), j < k → SeqAt.EqAt A.in1 s xs[j] ys[j] true) ∧ SeqAt.EqAt A.in1 s xs[k] ys[k] false ∧ LtAt A.in1 s xs[k] ys[k] c ∧ R (.ok (.ret (.bool c))) s) :=
  .of_wp fun prog w A R s h => by
    obtain ⟨hp, g, d, tk, os⟩ := s; obtain ⟨hl, hb, he, hk, hc, h⟩ := h
    have kinds := AutoSeq1.sub_tuple_tuple
    have zl : (xs.toList.zip ys.toList).length = min xs.size ys.size := by simp
    wp_walk using wpAny_loadPart' hl, wpAny_loadPart' hb, wpAny_forIn_list _ (fun rest b s' => b.1 = none ∧ s' = ⟨hp, g, d, tk, os⟩ ∧ ∃ i, i ≤ k ∧ rest = (xs.toList.zip ys.toList).drop i) _
    case turn =>
      rintro ⟨y, x⟩ rest b s' ⟨hb', rfl, i, ik, hz⟩
      have i1 : i < xs.size := by lia
      have i2 : i < ys.size := by lia
      have il : i < (xs.toList.zip ys.toList).length := by rw [zl]; lia
      rw [List.drop_eq_getElem_cons il] at hz
      obtain ⟨e1, e2⟩ := List.cons.inj hz
      have ey : y = xs[i] := by simpa using congrArg Prod.fst e1
      have ex : x = ys[i] := by simpa using congrArg Prod.snd e1
      subst ey ex
      by_cases z : i = k
      · subst z
        refine wpAny_bind (hk prog w _ _ ?_)
        simp only [if_true, Bool.not_false]
        refine wpAny_bind (wpAny_rule (wpAny_bind (hc prog w _ _ ?_)))
        wp_walk
        exact ⟨_, rfl, h⟩
      · refine wpAny_bind (he i i1 i2 (by lia) prog w _ _ ?_)
        wp_walk
        exact ⟨rfl, rfl, i + 1, by lia, e2⟩
    case fin =>
      rintro ⟨b1, b2⟩ s' ⟨hb', rfl, i, ik, hz⟩
      have il : i < (xs.toList.zip ys.toList).length := by rw [zl]; lia
      rw [List.drop_eq_getElem_cons il] at hz; cases hz
    case h =>
      exact ⟨rfl, rfl, 0, Nat.zero_le _, rfl⟩
theorem LtAt.tuples {A : Around} {s : Shared} {l b : Addr} {xs ys : Array Value} {k : Nat} {c : Bool} (hl : IsTup s.heap l xs) (hb : IsTup s.heap b ys) (hu : A.units < cLine) (k1 : k < xs.size) (k2 : k < ys.size)
    (he : ∀ j (h1 : j < xs.size) (h2 : j < ys.size), j < k → SeqAt.EqAt A.in1 s xs[j] ys[j] true) (hk : SeqAt.EqAt A.in1 s xs[k] ys[k] false) (hc : LtAt A.in1 s xs[k] ys[k] c) : LtAt A s (.ref l) (.ref b) c := fun prog w E Q h => by
  obtain ⟨⟨cl1, dd1, da1, sl1⟩, o1, c1, n, e1⟩ := hl
  obtain ⟨⟨cl2, dd2, da2, sl2⟩, o2, c2, m, e2⟩ := hb
  simp only at c1 e1 c2 e2; subst c1 e1 c2 e2
  exact richCompare_meets_room (op := .Lt) ⟨_, o1, rfl⟩ ⟨_, o2, rfl⟩ F.slot_tuple_lt F.entry_tuple_lt (F.args_tuple_lt_2 _ _) (ltTup_meets l b xs ys n m dd1 dd2 sl1 sl2 k k1 k2 c) ⟨o1, o2, he, hk, hc, show Value.bool c ≠ Value.notImplemented ∧ Q (.bool c) s from ⟨(fun x => nomatch x), h⟩⟩ hu
section
variable {prog : Program} {w : World} {A : Around} {R : Result → Shared → Prop} {I S : Addr} {fp wr : List Addr} {n : Nat} {P : Nat → Value → Prop} {St : Nat → Heap → Prop}
end
section
variable {prog : Program} {w : World} {A : Around} {E : Value → Shared → Prop} {s : Shared}
end
section
variable {X : Cx}
end
end L2
end
section
set_option maxHeartbeats 4000001
namespace Ts
open PySem PyProof.Rows
section
variable {prog : Program} {w : World} {A : Around} {E : Value → Shared → Prop} {s : Shared}
theorem sort_tree {a : Addr} {vs : List Value} {n : Nat} {Pp : Fin → Shared → Prop} (ho : s.heap.get? a = some (seqObj "list" vs.toArray n)) (hz : vs.length ≤ 63) (κ : SortKind) (rv : Value → Int)
    (hkind : ∀ h', (∀ c o, c ≠ a → s.heap.get? c = some o → h'.get? c = some o) → 2 ≤ vs.length → ∀ {Q : SortKind → Shared → Prop} {E : Value → Shared → Prop}, Q κ { s with heap := h' } → wpAny (model prog w) A (keyKind' vs.toArray) Q E { s with heap := h' })
    (hcmp : ∀ h', (∀ c o, c ≠ a → s.heap.get? c = some o → h'.get? c = some o) → Cmp prog w A { s with heap := h' } κ (fun p => p.1 ∈ vs) (fun p => rv p.1))
    (h : ∀ out : List Value, out.Perm vs → out.Pairwise (fun x y => rv x ≤ rv y) → Pp (.done (.ret .none)) { s with heap := sortedHeap s.heap a vs out.toArray }) :
    wpAny (model prog w) A (Builtin.«list.sort» ⟨[.ref a], []⟩) Pp E s := by
  have al : a < s.heap.objs.size := Heap.lt_size ho
  have ln : vs.toArray.size = vs.length := List.size_toArray ..
  have sl : vs.length ≤ sizeLine := Nat.le_trans hz (by decide)
  rw [list_sort_plain]
  refine wpAny_bind (listItems_at ho rfl (wpAny_bind (listUpdate_at ho rfl ?_ (hsz := by rw [ln]; exact sl))))
  obtain ⟨ep, e1⟩ : ∃ ep, (s.heap.update a (Obj.mapSeq fun _ => #[])).get? a = some (seqObj "list" #[] ep) := ⟨_, get?_update_seq ho fun _ => #[]⟩
  refine wpAny_bind (seqEpoch_at e1 rfl (wpAny_bind (wpAny_newTuple (wpAny_bind (wpAny_newList (wpAny_holding ?_))))))
  have e6 : (((s.heap.update a (Obj.mapSeq fun _ => #[])).push (seqObj "tuple" vs.toArray 0)).push (seqObj "list" #[] 0)).get? a = some (seqObj "list" #[] ep) :=
    Heap.get?_push_of_some _ (Heap.get?_push_of_some _ e1)
  have old : ∀ c o, c ≠ a → s.heap.get? c = some o → (((s.heap.update a (Obj.mapSeq fun _ => #[])).push (seqObj "tuple" vs.toArray 0)).push (seqObj "list" #[] 0)).get? c = some o := fun c o nc q =>
    Heap.get?_push_of_some _ (Heap.get?_push_of_some _ ((Heap.get?_update_other _ _ (Ne.symm nc)).trans q))
  show wpAny (model prog w) A _ Pp E { s with heap := ((s.heap.update a (Obj.mapSeq fun _ => #[])).push (seqObj "tuple" vs.toArray 0)).push (seqObj "list" #[] 0) }
  have lo : ∀ out : List Value, out.Perm vs → out.toArray.size ≤ sizeLine + 1 := fun out p1 => by rw [List.size_toArray, p1.length_eq]; lia
  generalize hH : ((s.heap.update a (Obj.mapSeq fun _ => #[])).push (seqObj "tuple" vs.toArray 0)).push (seqObj "list" #[] 0) = h6 at e6 old ⊢
  have back : ∀ out : Array Value, sortedHeap s.heap a vs out = h6.update a (Obj.mapSeq fun _ => out) := fun out => by rw [← hH]; rfl
  by_cases few : vs.toArray.size < 2
  · rw [if_pos few, if_pos few]
    refine wpAny_bind (wpAny_pure (?_ : wpAny _ _ _ _ _ _))
    refine wpAny_bind (wpAny_pure ?_)
    have em : (vs.toArray.zip vs.toArray).map (·.2) = vs.toArray := by
      apply Array.ext'
      rw [Array.toList_map, Array.toList_zip]
      exact List.map_snd_zip (Nat.le_refl _)
    have one : vs.Pairwise (fun x y => rv x ≤ rv y) := by
      match vs, few with
      | [], _ => exact List.Pairwise.nil
      | [x], _ => exact List.pairwise_singleton _ _
      | _ :: _ :: _, z => simp at z; lia
    have k := h vs (List.Perm.refl _) one
    rw [back] at k
    dsimp only
    rw [em]
    refine wpAny_bind (seqEpoch_at e6 rfl (wpAny_bind (listUpdate_at e6 rfl ?_ (hsz := Nat.zero_le _) (hsz2 := lo vs (List.Perm.refl _)))))
    simp only [if_false, bne_self_eq_false, Bool.false_eq_true]
    exact wpAny_pure k
  rw [if_neg few, if_neg few]
  refine wpAny_bind (hkind h6 old (by lia) ?_)
  have C := hcmp h6 old
  refine wpAny_bind (wpAny_mono (runs_ok C (hs := by simp; lia) (a₀ := vs.toArray.zip vs.toArray) (st := SortSt.mk' κ (vs.toArray.zip vs.toArray) #[] 7 none)
    (Q := fun _ st' => Bs κ (fun p => p.1 ∈ vs) (vs.toArray.zip vs.toArray) st' ∧ Up (fun p => rv p.1) (arrOf st') 0 (vs.toArray.zip vs.toArray).size) ⟨rfl, rfl, Array.Perm.refl _, fun p hp => ?_⟩ rfl fun st' b u => ⟨b, u⟩) ?_ fun _ _ e => e)
  · have : (vs.toArray.zip vs.toArray).toList = vs.zip vs := by simp
    rw [this] at hp
    exact (List.of_mem_zip hp).1
  rintro ⟨⟨⟩, st'⟩ s' ⟨rfl, b, u⟩
  have pl : (arrOf st').toList.Perm (vs.zip vs) := by
    have := Array.perm_iff_toList_perm.mp b.perm
    simpa using this
  have same : ∀ p ∈ (arrOf st').toList, p.1 = p.2 := fun p hp => by
    have h1 := pl.mem_iff.mp hp
    obtain ⟨i, hi⟩ := List.mem_iff_getElem?.mp h1
    rw [List.getElem?_zip_eq_some] at hi
    have := hi.1.symm.trans hi.2
    exact Option.some.inj this
  have so : Srt (fun p => rv p.1) (arrOf st').toList := by
    have := srt_of (arr := arrOf st') (lo := 0) (n := (arrOf st').size) (by rw [b.size]; exact u) (by lia)
    rw [Nat.zero_add, cut_of, ← Array.length_toList, List.take_length] at this
    exact this
  have pm : ((arrOf st').toList.map (·.2)).Perm vs := by
    have := pl.map (·.2)
    rwa [List.map_snd_zip (Nat.le_refl _)] at this
  have em : (arrOf st').map (·.2) = ((arrOf st').toList.map (·.2)).toArray := by
    apply Array.ext'; simp
  have k := h _ pm (by
    refine List.pairwise_map.mpr (List.Pairwise.imp_of_mem ?_ so)
    intro x y hx hy le
    rw [← same x hx, ← same y hy]; exact le)
  rw [back] at k
  dsimp only
  rw [em, b.fail]
  refine wpAny_bind (seqEpoch_at e6 rfl (wpAny_bind (listUpdate_at e6 rfl ?_ (hsz := Nat.zero_le _) (hsz2 := lo _ pm))))
  simp only [if_false, bne_self_eq_false, Bool.false_eq_true]
  exact wpAny_pure k
end
end Ts
end
section
set_option maxHeartbeats 4000001
namespace Own
open PySem PySem.Spec PyProof.Rows
section
variable {prog : Program} {w : World} {A : Around} {E : Value → Shared → Prop} {s : Shared} {z TI TO i1 i2 : Addr} {f1 f2 : List Addr} {n1 n2 k : Nat} {P1 P2 : Nat → Value → Prop} {S1 S2 : Nat → Heap → Prop} {a b : Value}
end
end Own
end
section
set_option maxHeartbeats 4000001
namespace Own
open PySem PySem.Spec PyProof.Rows
section
variable {prog : Program} {w : World} {A : Around} {E : Value → Shared → Prop} {s : Shared} {z TI TO i1 i2 L : Addr} {f1 f2 : List Addr} {n n2 k : Nat} {P1 P2 : Nat → Value → Prop} {S1 S2 : Nat → Heap → Prop}
end
end Own
end
section
set_option maxHeartbeats 4000001
namespace Own
open PySem PySem.Spec PyProof.Rows Ts
section
variable {prog : Program} {w : World} {A : Around} {E : Value → Shared → Prop} {s : Shared}
theorem sortedC {x : Value} {Q : Value → Shared → Prop}
    (h : wpAny (model prog w) A.in1 (collect x) (fun vs s1 => ∃ (κ : SortKind) (rv : Value → Int), vs.length ≤ 63 ∧
      (∀ h' : Heap, (∀ c o, s1.heap.get? c = some o → h'.get? c = some o) → 2 ≤ vs.length → ∀ (A' : Around) {Q : SortKind → Shared → Prop} {E : Value → Shared → Prop}, Q κ { s1 with heap := h' } → wpAny (model prog w) A' (keyKind' vs.toArray) Q E { s1 with heap := h' }) ∧
      (∀ h' : Heap, (∀ c o, s1.heap.get? c = some o → h'.get? c = some o) → ∀ (A' : Around), A'.units ≤ A.units + 8 → Cmp prog w A' { s1 with heap := h' } κ (fun p => p.1 ∈ vs) (fun p => rv p.1)) ∧
      ∀ (h' : Heap) (l : Addr) (e : Nat) (out : List Value), s1.heap.objs.size ≤ l → h'.get? l = some (seqObj "list" out.toArray e) → out.Perm vs → out.Pairwise (fun x y => rv x ≤ rv y) → (∀ c o, s1.heap.get? c = some o → h'.get? c = some o) → Q (.ref l) { s1 with heap := h' }) E s) :
    wpAny (model prog w) A (call (.builtin "sorted") [x]) Q E s := by
  refine Calls.call_function_entry kind_sorted plain_sorted entry_sorted (args_sorted1 _) ?_; unfold Builtin.«sorted»
  refine wpAny_bind (m := checkCount "sorted" 1 1 _) (wpAny_pure (wpAny_bind (wpAny_mono h (fun vs s1 z => ?_) fun _ _ e => e)))
  obtain ⟨κ, rv, hz, hk, hc, fin⟩ := z
  have sl : vs.length ≤ sizeLine := Nat.le_trans hz (by decide)
  refine wpAny_bind (wpAny_newList ?_ (hsz := sl))
  have new : (s1.heap.push (seqObj "list" vs.toArray 0)).get? s1.heap.objs.size = some (seqObj "list" vs.toArray 0) := Heap.get?_push_size _ rfl
  have up : ∀ h' : Heap, (∀ c o, c ≠ s1.heap.objs.size → (s1.heap.push (seqObj "list" vs.toArray 0)).get? c = some o → h'.get? c = some o) → ∀ c o, s1.heap.get? c = some o → h'.get? c = some o := fun h' k c o e => k c o (Nat.ne_of_lt (Heap.lt_size e)) (Heap.get?_push_of_some _ e)
  refine wpAny_bind (wpAny_holding (wpAny_call_entry slot_list_sort ⟨_, new, rfl⟩ entry_list_sort (sort_tree new hz κ rv (fun h' k l2 => hk h' (up h' k) l2 _) (fun h' k => hc h' (up h' k) _ ?_) fun out p1 p2 => ⟨_, rfl, ?_⟩) (args_list_sort _)))
  · show A.units + 1 + 1 ≤ A.units + 8
    lia
  obtain ⟨e, he⟩ := sortedHeap_at (out := out.toArray) new
  refine wpAny_pure ⟨_, rfl, fin _ _ e out (Nat.le_refl _) he p1 p2 fun c o q => ?_⟩
  have lt := Heap.lt_size q
  rw [sortedHeap_old (Nat.ne_of_lt lt) (by rw [size_push']; exact Nat.lt_succ_of_lt lt)]
  exact Heap.get?_push_of_some _ q
end
end Own
namespace L2
open PySem PySem.Spec PyProof.Rows Own Ts
inductive Lx (H : Hp) : Nat → V → V → Ordering → Prop where
  | int (n : Nat) (i j : Int) : Lx H n (.int i) (.int j) (compare i j)
  | row {n : Nat} {a b : Addr} {xs ys : List V} {cs : List Ordering} (ha : H a = some (.tup xs)) (hb : H b = some (.tup ys)) (l1 : xs.length = cs.length) (l2 : ys.length = cs.length) (h : ∀ (i : Nat) u v c, xs[i]? = some u → ys[i]? = some v → cs[i]? = some c → Lx H n u v c) :
      Lx H (n + 1) (.ref a) (.ref b) (cs.foldr Ordering.then .eq)
theorem then_eq : ∀ {cs : List Ordering}, cs.foldr Ordering.then .eq = .eq ↔ ∀ c ∈ cs, c = .eq
  | [] => by simp
  | c :: cs => by
    rw [List.foldr_cons]
    constructor
    · intro h
      cases c <;> simp [Ordering.then] at h
      intro d hd
      rcases List.mem_cons.mp hd with rfl | hd2
      · rfl
      · exact then_eq.mp h d hd2
    · intro h
      rw [h c List.mem_cons_self]
      exact then_eq.mpr fun d hd => h d (List.mem_cons_of_mem _ hd)
theorem then_ne : ∀ {cs : List Ordering}, cs.foldr Ordering.then .eq ≠ .eq → ∃ (k : Nat) (c : Ordering), cs[k]? = some c ∧ c ≠ .eq ∧ cs.foldr Ordering.then .eq = c ∧ ∀ j : Nat, j < k → cs[j]? = some Ordering.eq
  | [], h => absurd rfl h
  | c :: cs, h => by
    by_cases z : c = .eq
    · subst z
      have e : (Ordering.eq :: cs).foldr Ordering.then .eq = cs.foldr Ordering.then .eq := rfl
      rw [e] at h ⊢
      obtain ⟨k, d, h1, h2, h3, h4⟩ := then_ne h
      refine ⟨k + 1, d, by simpa using h1, h2, h3, fun j hj => ?_⟩
      cases j with
      | zero => rfl
      | succ j => simpa using h4 j (by lia)
    · refine ⟨0, c, rfl, z, ?_, fun j hj => by lia⟩
      rw [List.foldr_cons]
      cases c <;> first | rfl | exact absurd rfl z
section
variable {X : Cx}
theorem ord_int (i j : Int) : (compare i j == .eq) = decide (i = j) ∧ (compare i j == .lt) = decide (i < j) := by
  rw [show compare i j = compareOfLessAndEq i j from rfl]
  unfold compareOfLessAndEq
  by_cases h1 : i < j
  · rw [if_pos h1, decide_eq_true h1, decide_eq_false (by lia)]; exact ⟨rfl, rfl⟩
  · rw [if_neg h1, decide_eq_false h1]
    by_cases h2 : i = j
    · rw [if_pos h2, decide_eq_true h2]; exact ⟨rfl, rfl⟩
    · rw [if_neg h2, decide_eq_false h2]; exact ⟨rfl, rfl⟩
theorem Lx.refl {H : Hp} {n : Nat} {x y : V} {c : Ordering} (h : Lx H n x y c) : x = y → c = .eq := by
  induction h with
  | int n i j =>
    intro e
    cases e
    have := (ord_int i i).1
    rw [decide_eq_true rfl] at this
    simpa using this
  | @row n a b xs ys cs ha hb l1 l2 h ih =>
    intro e
    cases e
    rw [ha] at hb
    cases hb
    refine then_eq.mpr fun c hc => ?_
    obtain ⟨i, hi⟩ := List.mem_iff_getElem?.mp hc
    have il := (List.getElem?_eq_some_iff.mp hi).1
    exact ih i _ _ c (List.getElem?_eq_getElem (by lia)) (List.getElem?_eq_getElem (by lia)) hi rfl
theorem lx_eq {pins : List (Addr × Obj)} {σ : St} {H : Hp} {s : Shared} (I : Inv X pins σ H s) {n : Nat} {x y : V} {c : Ordering} (h : Lx H n x y c) : ∀ (A : Around) (u v : Value), A.units + n < cLine → RelV x u → RelV y v → SeqAt.EqAt A s u v (c == .eq) := by
  induction h with
  | int n i j =>
    intro A u v _ r1 r2
    have := eqAt_V (A := A) (s := s) (x := .int j) (y := .int i) r1 r2 rfl rfl
    rw [(ord_int i j).1]
    have e : eqV (.int i) (.int j) = decide (i = j) := by
      show (i == j) = decide (i = j)
      by_cases z : i = j <;> simp [z]
    rwa [e] at this
  | @row n a b xs ys cs ha hb l1 l2 h ih =>
    intro A u v hu r1 r2
    cases r1; cases r2
    by_cases ab : a = b
    · subst ab
      have : cs.foldr Ordering.then .eq = .eq := Lx.refl (.row ha hb l1 l2 h) rfl
      rw [this]; exact SeqAt.EqAt.same _
    · obtain ⟨its, g1, p1, _⟩ := I.tuple (SqT.of ha)
      obtain ⟨jts, g2, p2, _⟩ := I.tuple (SqT.of hb)
      have m1 := g1.length
      have m2 := g2.length
      refine SeqAt.EqAt.of_refs ab ?_
      have e : ((List.range (min its.toArray.size jts.toArray.size)).all (fun j => (cs.getD j .eq) == .eq) && its.toArray.size == jts.toArray.size) = (cs.foldr Ordering.then .eq == .eq) := by
        rw [List.size_toArray, List.size_toArray, ← m1, ← m2, l1, l2, beq_self_eq_true, Bool.and_true, Nat.min_self]
        by_cases z : cs.foldr Ordering.then .eq = .eq
        · rw [z]
          refine (List.all_eq_true.mpr fun j hj => ?_).trans rfl
          have jl := List.mem_range.mp hj
          rw [List.getD_eq_getElem?_getD, List.getElem?_eq_getElem jl, Option.getD_some, then_eq.mp z _ (List.getElem_mem jl)]; rfl
        · obtain ⟨k, d, h1, h2, h3, _⟩ := then_ne z
          have kl := (List.getElem?_eq_some_iff.mp h1).1
          rw [h3]
          have f1 : (d == Ordering.eq) = false := by simpa using h2
          rw [f1]
          refine Bool.eq_false_iff.mpr fun t => ?_
          have := List.all_eq_true.mp t k (List.mem_range.mpr kl)
          rw [List.getD_eq_getElem?_getD, h1, Option.getD_some, f1] at this
          cases this
      have := SeqAt.RcAt.tuples (e := fun j => (cs.getD j .eq) == .eq) p1 p2 (A := A) (s := s) (by lia) (fun j k1 k2 => ?_)
      · rwa [e] at this
      · have k1' : j < xs.length := by simpa [m1] using k1
        have k2' : j < ys.length := by simpa [m2] using k2
        obtain ⟨w1, e1, q1⟩ := g1.get (List.getElem?_eq_getElem k1')
        obtain ⟨w2, e2, q2⟩ := g2.get (List.getElem?_eq_getElem k2')
        have z1 : its.toArray[j] = w1 := by simpa using (List.getElem?_eq_some_iff.mp e1).2
        have z2 : jts.toArray[j] = w2 := by simpa using (List.getElem?_eq_some_iff.mp e2).2
        have kc : j < cs.length := by lia
        rw [z1, z2, List.getD_eq_getElem?_getD, List.getElem?_eq_getElem kc, Option.getD_some]
        exact ih j _ _ _ (List.getElem?_eq_getElem k1') (List.getElem?_eq_getElem k2') (List.getElem?_eq_getElem kc) A.in1 _ _ (by show A.units + 1 + n < cLine; lia) q1 q2
theorem lx_lt {pins : List (Addr × Obj)} {σ : St} {H : Hp} {s : Shared} (I : Inv X pins σ H s) {n : Nat} {x y : V} {c : Ordering} (h : Lx H n x y c) : c ≠ .eq → ∀ (A : Around) (u v : Value), A.units + n < cLine → RelV x u → RelV y v → LtAt A s u v (c == .lt) := by
  induction h with
  | int n i j =>
    intro _ A u v _ ⟨t1, e1⟩ ⟨t2, e2⟩
    subst e1 e2
    rw [(ord_int i j).2]
    exact LtAt.ints i j t1 t2
  | @row n a b xs ys cs ha hb l1 l2 h ih =>
    intro ne A u v hu r1 r2
    cases r1; cases r2
    obtain ⟨its, g1, p1, _⟩ := I.tuple (SqT.of ha)
    obtain ⟨jts, g2, p2, _⟩ := I.tuple (SqT.of hb)
    have m1 := g1.length
    have m2 := g2.length
    obtain ⟨k, d, h1, h2, h3, h4⟩ := then_ne ne
    have kl := (List.getElem?_eq_some_iff.mp h1).1
    have at_ : ∀ j (k1 : j < its.toArray.size) (k2 : j < jts.toArray.size), ∃ (j1 : j < xs.length) (j2 : j < ys.length), RelV xs[j] its.toArray[j] ∧ RelV ys[j] jts.toArray[j] := fun j k1 k2 => by
      have k1' : j < xs.length := by simpa [m1] using k1
      have k2' : j < ys.length := by simpa [m2] using k2
      obtain ⟨w1, e1, q1⟩ := g1.get (List.getElem?_eq_getElem k1')
      obtain ⟨w2, e2, q2⟩ := g2.get (List.getElem?_eq_getElem k2')
      have z1 : its.toArray[j] = w1 := by simpa using (List.getElem?_eq_some_iff.mp e1).2
      have z2 : jts.toArray[j] = w2 := by simpa using (List.getElem?_eq_some_iff.mp e2).2
      rw [z1, z2]
      exact ⟨k1', k2', q1, q2⟩
    rw [h3]
    have b1 : k < its.toArray.size := by rw [List.size_toArray]; lia
    have b2 : k < jts.toArray.size := by rw [List.size_toArray]; lia
    obtain ⟨j1, j2, r1, r2⟩ := at_ k b1 b2
    refine LtAt.tuples (k := k) p1 p2 (by lia) b1 b2 (fun j k1 k2 hj => ?_) ?_ ?_
    · obtain ⟨j1, j2, r1, r2⟩ := at_ j k1 k2
      exact lx_eq I (h j _ _ _ (List.getElem?_eq_getElem j1) (List.getElem?_eq_getElem j2) (h4 j hj)) A.in1 _ _ (by show A.units + 1 + n < cLine; lia) r1 r2
    · have := lx_eq I (h k _ _ _ (List.getElem?_eq_getElem j1) (List.getElem?_eq_getElem j2) h1) A.in1 _ _ (by show A.units + 1 + n < cLine; lia) r1 r2
      rwa [show (d == Ordering.eq) = false from by simpa using h2] at this
    · exact ih k _ _ _ (List.getElem?_eq_getElem j1) (List.getElem?_eq_getElem j2) h1 h2 A.in1 _ _ (by show A.units + 1 + n < cLine; lia) r1 r2
end
end L2
end
section
set_option maxHeartbeats 4000001
namespace L2
open PySem PySem.Spec PyProof.Rows Own Ts
def Rk (H : Hp) (xs : List V) (rk : V → Int) : Prop := (∀ x ∈ xs, ∃ i, x = .int i ∧ rk x = i) ∨ ∃ n, n ≤ 20 ∧ ∀ x ∈ xs, (∃ a f r, x = .ref a ∧ H a = some (.tup (.int f :: r))) ∧ ∀ y ∈ xs, Lx H n x y (compare (rk x) (rk y))
def vOf : Value → V
  | .int i _ => .int i
  | .ref a => .ref a
  | _ => .non
theorem vals_of : ∀ {xs : List V} {us : List Value}, Vals xs us → (∀ x ∈ xs, (∃ i, x = .int i) ∨ ∃ a, x = .ref a) → xs = us.map vOf ∧ ∀ u ∈ us, RelV (vOf u) u
  | _, _, .nil, _ => ⟨rfl, fun u hu => by simp at hu⟩
  | x :: xs, u :: us, .cons r rs, h => by
    obtain ⟨e, f⟩ := vals_of rs fun y hy => h y (List.mem_cons_of_mem _ hy)
    have one : vOf u = x ∧ RelV (vOf u) u := by
      rcases h x List.mem_cons_self with ⟨i, rfl⟩ | ⟨a, rfl⟩
      · obtain ⟨t, rfl⟩ := r; exact ⟨rfl, t, rfl⟩
      · cases r; exact ⟨rfl, rfl⟩
    refine ⟨by rw [List.map_cons, one.1, ← e], fun v hv => ?_⟩
    rcases List.mem_cons.mp hv with rfl | hv2
    · exact one.2
    · exact f v hv2
theorem vals_back : ∀ {us : List Value}, (∀ u ∈ us, RelV (vOf u) u) → Vals (us.map vOf) us
  | [], _ => .nil
  | u :: us, h => .cons (h u List.mem_cons_self) (vals_back fun v hv => h v (List.mem_cons_of_mem _ hv))
theorem Rk.kinds {H : Hp} {xs : List V} {rk : V → Int} (h : Rk H xs rk) : ∀ x ∈ xs, (∃ i, x = .int i) ∨ ∃ a, x = .ref a := fun x hx => by
  rcases h with h | ⟨n, _, h⟩
  · obtain ⟨i, e, _⟩ := h x hx; exact .inl ⟨i, e⟩
  · obtain ⟨⟨a, _, _, e, _⟩, _⟩ := h x hx; exact .inr ⟨a, e⟩
section
variable {prog : Program} {w : World} {A : Around} {E : Value → Shared → Prop} {s : Shared}
theorem one_less {u v : Value} {b : Bool} {Q : Bool → Shared → Prop} (l : LtAt A s u v b) (h : Q b s) : wpAny (model prog w) A (oneLt' false u v) Q E s := by
  rw [oneLt'_eq, if_neg Bool.false_ne_true]
  exact wpAny_bind (l prog w _ _ (wpAny_truthy_bool h))
theorem kat_row {Q : Bool → Shared → Prop} (cs : List Ordering) : ∀ (us vs : List Value) (i : Nat), us.length = cs.length → vs.length = cs.length → (∀ (j : Nat) u v c, us[j]? = some u → vs[j]? = some v → cs[j]? = some c → SeqAt.EqAt A s u v (c == .eq) ∧ (c ≠ .eq → LtAt A s u v (c == .lt))) →
    (i = 0 → ∀ u v c, us[0]? = some u → vs[0]? = some v → cs[0]? = some c → ∃ a b t t', u = .int a t ∧ v = .int b t' ∧ c = compare a b) → Q (cs.foldr Ordering.then .eq == .lt) s → PySem.W.KatLex prog w A true false Q (us.zip vs) i s := by
  induction cs with
  | nil =>
    intro us vs i l1 l2 _ _ q
    rw [List.length_eq_zero_iff.mp l1]
    exact PySem.W.kat_nil q
  | cons c cs ih =>
    intro us vs i l1 l2 h h0 q
    obtain ⟨u, us, rfl⟩ : ∃ u us', us = u :: us' := by
      cases us with
      | nil => simp at l1
      | cons u us => exact ⟨u, us, rfl⟩
    obtain ⟨v, vs, rfl⟩ : ∃ v vs', vs = v :: vs' := by
      cases vs with
      | nil => simp at l2
      | cons v vs => exact ⟨v, vs, rfl⟩
    have hh := h 0 u v c rfl rfl rfl
    refine PySem.W.kat_cons (hh.1 prog w _ _ ?_)
    by_cases z : c = .eq
    · subst z
      refine PySem.W.kat_yes (ih us vs (i + 1) (by simpa using l1) (by simpa using l2) (fun j u v c a1 a2 a3 => h (j + 1) u v c (by simpa using a1) (by simpa using a2) (by simpa using a3)) (fun e => by lia) q)
    · have e1 : (c == Ordering.eq) = false := by simpa using z
      have e2 : (c :: cs).foldr Ordering.then .eq = c := by
        rw [List.foldr_cons]
        cases c <;> first | rfl | exact absurd rfl z
      rw [e2] at q
      rw [e1]
      refine PySem.W.kat_no ?_
      by_cases i0 : i = 0
      · obtain ⟨a, b, t, t', rfl, rfl, ec⟩ := h0 i0 u v c rfl rfl rfl
        subst i0
        rw [ec, (ord_int a b).2] at q
        exact oneLt_int q
      · have : (true && i == 0) = false := by simpa using i0
        rw [this]
        exact one_less (hh.2 z) q
end
section
variable {X : Cx}
theorem asks {pins : List (Addr × Obj)} {σ : St} {H : Hp} {s1 : Shared} (I : Inv X pins σ H s1) (hu : X.A.units + 64 < cLine) {xs : List V} {vs : List Value} {rk : V → Int} (r : Vals xs vs) (R : Rk H xs rk) :
    ∃ κ : SortKind, (∀ h' : Heap, (∀ c o, s1.heap.get? c = some o → h'.get? c = some o) → 2 ≤ vs.length → ∀ (A' : Around) {Q : SortKind → Shared → Prop} {E : Value → Shared → Prop}, Q κ { s1 with heap := h' } → wpAny (model X.prog X.w) A' (keyKind' vs.toArray) Q E { s1 with heap := h' }) ∧
      (∀ h' : Heap, (∀ c o, s1.heap.get? c = some o → h'.get? c = some o) → ∀ (A' : Around), A'.units ≤ X.A.units + 8 → Cmp X.prog X.w A' { s1 with heap := h' } κ (fun p => p.1 ∈ vs) (fun p => rk (vOf p.1))) := by
  obtain ⟨ex, rel⟩ := vals_of r R.kinds
  have mem : ∀ u ∈ vs, vOf u ∈ xs := fun u hu => by rw [ex]; exact List.mem_map.mpr ⟨u, hu, rfl⟩
  rcases R with R | ⟨n, hn, R⟩
  · have nms : ∀ u ∈ vs, ∃ i t, u = .int i t ∧ rk (vOf u) = i := fun u hu => by
      obtain ⟨i, e, ei⟩ := R _ (mem u hu)
      have ru := rel u hu
      rw [e] at ru
      obtain ⟨t, rfl⟩ := ru
      exact ⟨i, t, rfl, ei⟩
    refine ⟨oneType', fun h' k l2 A' Q E q => PySem.W.kas_kind l2 (T := .type "int") (fun v hv => ?_) (by decide) (by decide) q, fun h' k A' _ => ⟨fun x y hx hy Q E q => ?_⟩⟩
    · obtain ⟨i, t, rfl, _⟩ := nms v hv
      exact PySem.W.Looks.of_pure rfl
    · obtain ⟨x1, x2⟩ := x
      obtain ⟨y1, y2⟩ := y
      obtain ⟨i, t, e1, r1⟩ := nms x1 hx
      obtain ⟨j, t', e2, r2⟩ := nms y1 hy
      simp only at q
      rw [r1, r2] at q
      subst e1 e2
      show wpAny _ _ (keyLt' oneType' (.int i t) (.int j t')) _ _ _
      rw [keyLt'_oneType]
      exact oneLt_int q
  · refine ⟨tuples' (Value.type "int" != Value.type "tuple"), fun h' k l2 A' Q E q => ?_, fun h' k A' hA => ⟨fun x y hx hy Q E q => ?_⟩⟩
    · have I' : Inv X pins σ H { s1 with heap := h', toks := s1.toks } := I.kept k
      have kt : ∀ us : List Value, (∀ u ∈ us, vOf u ∈ xs ∧ RelV (vOf u) u) → ∃ fs, PySem.W.KatTups h' us fs ∧ fs.length = us.length ∧ ∀ f ∈ fs, ∃ i t, f = Value.int i t := by
        intro us
        induction us with
        | nil => intro _; exact ⟨[], PySem.W.KatTups.nil, rfl, fun f hf => by simp at hf⟩
        | cons u us ih =>
          intro h
          obtain ⟨fs, k1, k2, k3⟩ := ih fun v hv => h v (List.mem_cons_of_mem _ hv)
          obtain ⟨m1, r1⟩ := h u List.mem_cons_self
          obtain ⟨⟨a, f, rr, e, ha⟩, _⟩ := R _ m1
          rw [e] at r1
          cases r1
          obtain ⟨its, g, ⟨o, eo, co, no, dt⟩, _⟩ := I'.tuple (SqT.of ha)
          obtain ⟨f0, ef, ⟨t0, rfl⟩⟩ := g.get (i := 0) (x := .int f) rfl
          exact ⟨_, PySem.W.KatTups.cons eo co dt (by simpa using ef) k1, by rw [List.length_cons, List.length_cons, k2], fun f' hf => by
            rcases List.mem_cons.mp hf with rfl | hf
            · exact ⟨_, _, rfl⟩
            · exact k3 f' hf⟩
      obtain ⟨fs, k1, k2, k3⟩ := kt vs fun u hu => ⟨mem u hu, rel u hu⟩
      refine PySem.W.kat_kind (T := .type "int") k1 (by lia) (fun v hv => ?_) (by decide) q
      obtain ⟨i, t, rfl⟩ := k3 v hv
      exact PySem.W.Looks.of_pure rfl
    · have I' : Inv X pins σ H { s1 with heap := h', toks := s1.toks } := I.kept k
      obtain ⟨x1, x2⟩ := x
      obtain ⟨y1, y2⟩ := y
      have rx := rel x1 hx
      have ry := rel y1 hy
      obtain ⟨⟨a, f, xr, ea, ha⟩, lx⟩ := R _ (mem x1 hx)
      obtain ⟨⟨b, g, yr, eb, hb⟩, _⟩ := R _ (mem y1 hy)
      have L := lx _ (mem y1 hy)
      simp only at q
      rw [ea] at rx L q
      rw [eb] at ry L q
      cases rx; cases ry
      generalize hc : compare (rk (V.ref a)) (rk (V.ref b)) = c at L
      rw [← (ord_int (rk (V.ref a)) (rk (V.ref b))).2, hc] at q
      cases L with
      | @row n _ _ xs' ys' cs ha' hb' l1 l2 hL =>
        rw [ha] at ha'; cases ha'
        rw [hb] at hb'; cases hb'
        obtain ⟨its, g1, ⟨o1, eo1, co1, no1, dt1⟩, _⟩ := I'.tuple (SqT.of ha)
        obtain ⟨jts, g2, ⟨o2, eo2, co2, no2, dt2⟩, _⟩ := I'.tuple (SqT.of hb)
        have m1 := g1.length
        have m2 := g2.length
        show wpAny _ _ (keyLt' (tuples' true) (.ref a) (.ref b)) _ _ _
        refine PySem.W.kat_lt eo1 dt1 eo2 dt2 ?_
        have ds : decide (its.toArray.size < jts.toArray.size) = false := decide_eq_false (by rw [List.size_toArray, List.size_toArray]; lia)
        rw [ds]
        refine kat_row cs its jts 0 (by lia) (by lia) (fun j u v c hu' hv hc' => ?_) (fun _ u v c hu' hv hc' => ?_) q
        · have j1 : j < (V.int f :: xr).length := by have := (List.getElem?_eq_some_iff.mp hu').1; lia
          have j2 : j < (V.int g :: yr).length := by have := (List.getElem?_eq_some_iff.mp hv).1; lia
          obtain ⟨u', e1, q1⟩ := g1.get (List.getElem?_eq_getElem j1)
          obtain ⟨v', e2, q2⟩ := g2.get (List.getElem?_eq_getElem j2)
          rw [hu'] at e1; obtain rfl := Option.some.inj e1
          rw [hv] at e2; obtain rfl := Option.some.inj e2
          have LL := hL j _ _ c (List.getElem?_eq_getElem j1) (List.getElem?_eq_getElem j2) hc'
          exact ⟨lx_eq I' LL A' _ _ (by lia) q1 q2, fun ne => lx_lt I' LL ne A' _ _ (by lia) q1 q2⟩
        · obtain ⟨u', e1, t1, r1⟩ := g1.get (i := 0) (x := .int f) rfl
          obtain ⟨v', e2, t2, r2⟩ := g2.get (i := 0) (x := .int g) rfl
          rw [hu'] at e1; obtain rfl := Option.some.inj e1
          rw [hv] at e2; obtain rfl := Option.some.inj e2
          have LL := hL 0 (.int f) (.int g) c rfl rfl hc'
          cases LL
          exact ⟨f, g, t1, t2, r1, r2, rfl⟩
end
section
variable {X : Cx}
theorem call_sortedX (b : Bool) (hu : X.A.units + 64 < cLine) : CallR X (.builtin "sorted") (fun vs H Q => ∃ a xs rk, vs = [.ref a] ∧ SqB b X.K H a xs ∧ xs.length ≤ 63 ∧ Rk H xs rk ∧ ∀ (l : Addr) (ys : List V), H l = none → ys.Perm xs → ys.Pairwise (fun x y => rk x ≤ rk y) → Q (.ref l) (upd H l (.lst ys))) := by
  intro pins s σ H vs us Q I rv h
  obtain ⟨a, xs, rk, rfl, hq, hz, R, q⟩ := h
  obtain ⟨u, rfl, ru⟩ := rv.one
  cases ru
  obtain ⟨its, r, p⟩ := I.sq hq
  have hl := r.length
  have sl : its.length ≤ sizeLine := Nat.le_trans (show _ ≤ 63 by lia) (by decide)
  refine sortedC (gather p sl fun h1 far k1 => ?_)
  have I1 : Inv X pins σ H { s with heap := h1, toks := s.toks } := I.kept k1
  obtain ⟨κ, hk, hc⟩ := asks I1 hu r R
  refine ⟨κ, fun u => rk (vOf u), by lia, hk, hc, fun h' l e out lo eo pm so kk => ?_⟩
  obtain ⟨ex, rel⟩ := vals_of r R.kinds
  have vo : Vals (out.map vOf) out := vals_back fun u hu => rel u (pm.mem_iff.mp hu)
  refine ⟨.ref l, _, I.laid (t' := s.toks) (o := .lst (out.map vOf)) (fun c o q => kk c o (k1 c o q)) (Nat.le_trans far lo) ⟨?_, out, e, vo, eo⟩, rfl, q l _ (I.hok.fresh (Nat.le_trans far lo)) ?_ ?_⟩
  · rw [List.length_map, pm.length_eq]; exact sl
  · rw [ex]; exact pm.map vOf
  · exact List.pairwise_map.mpr so
end
end L2
end
section
set_option maxHeartbeats 4000001
namespace L2
open PySem PySem.Spec PyProof.Rows Own
section
variable {prog : Program} {w : World} {A : Around} {E : Value → Shared → Prop} {s : Shared}
end
section
variable {X : Cx}
end
section
variable {X : Cx}
end
end L2
end
section
set_option maxHeartbeats 4000001
namespace L2
open PySem PySem.Spec PyProof.Rows Own
section
variable {X : Cx}
end
theorem lc_enumT {K : PySem.W.Frag} {b : Bool} {a : Addr} {xs : List V} {g : TG} {tt : TT} {te : TE} {l : Addr} {σ : St} {H : Hp} {Q : VK} (Pv : Nat → List V → St → Hp → Prop) (h0 : Pv 0 [] σ H) (hl : ∀ i acc σ H, Pv i acc σ H → H l = some (.lst acc) ∧ SqB b K H a xs)
    (hs : ∀ (i : Nat) acc σ H x T, xs[i]? = some x → H T = none → Pv i acc σ H → g (.ref T) σ (upd H T (.tup [.int i, x])) fun σ3 H3 => tt σ3 H3 fun b H4 => if b = true then te σ3 H4 fun z H5 => H5 l = some (.lst acc) ∧ acc.length < sizeLine ∧ Nx xs.length i (Pv (i + 1) (acc ++ [z]) σ3 (upd H5 l (.lst (acc ++ [z])))) else Nx xs.length i (Pv (i + 1) acc σ3 H4))
    (hd : ∀ acc σ H, Pv xs.length acc σ H → Q (.ref l) H) : ∃ W : Nat → Nat → List V → St → Hp → Prop, (∃ m, W 0 m [] σ H) ∧ LCW (Ite K b a) g tt te l Q W := by
  refine ⟨fun i m acc σ H => m = xs.length - i ∧ i ≤ xs.length ∧ Pv i acc σ H, ⟨_, rfl, Nat.zero_le _, h0⟩, ?_⟩
  rintro i m acc σ H ⟨rfl, hi, p⟩
  obtain ⟨q0, q1⟩ := hl i acc σ H p
  refine ⟨q0, ?_⟩
  by_cases hlt : i < xs.length
  · refine .inr ⟨⟨xs, _, q1, List.getElem?_eq_getElem hlt⟩, fun v H2 ⟨y, ey, T, hT, e1, e2⟩ => ?_⟩
    subst e1 e2
    exact hs i acc σ H y T (ey xs q1) hT p
  · obtain rfl : i = xs.length := by lia
    exact .inl ⟨⟨xs, q1, rfl⟩, hd acc σ H p⟩
end L2
end
section
set_option maxHeartbeats 4000001
namespace Bn
open PySem L2 Own
def big (x y : Int) : Int := if y > x then y else x
def layStep (st : List Int × List Int) (f : Nat × Nat) : List Int × List Int :=
  ((st.1.set f.1 (1 + big (st.1.getD f.1 0) (st.1.getD f.2 0))).set f.2 (1 + big (st.1.getD f.1 0) (st.1.getD f.2 0)), st.2 ++ [1 + big (st.1.getD f.1 0) (st.1.getD f.2 0)])
def lay (n : Nat) (fs : List (Nat × Nat)) : List Int × List Int := fs.foldl layStep (List.replicate n 0, [])
def meets (g f : Nat × Nat) : Bool := decide (g.1 = f.1 ∨ g.1 = f.2) || decide (g.2 = f.1 ∨ g.2 = f.2)
def ahead (fs : List (Nat × Nat)) (fo : List Int) (f : Nat × Nat) (i : Nat) : List Int := ((List.range i).filter fun j => meets (fs.getD j (0, 0)) f).map fun j => fo.getD j 0
def layers (N : Nt) : List Int := (lay N.lanes N.forks).2
end Bn
end
section
set_option maxHeartbeats 4000001
namespace Bn
open PySem L2 Own
abbrev Fk := Nat × Nat
def run {σ α : Type} (step : σ → Fk → σ × α) : σ → List Fk → σ × List (α × Fk)
  | s, [] => (s, [])
  | s, f :: fs => ((run step (step s f).1 fs).1, ((step s f).2, f) :: (run step (step s f).1 fs).2)
def rnk (x : Int × Fk) : Int := x.1 * 1024 + x.2.1 * 32 + x.2.2
def ins (x : Int × Fk) : List (Int × Fk) → List (Int × Fk)
  | [] => [x]
  | y :: l => if rnk x ≤ rnk y then x :: y :: l else y :: ins x l
end Bn
end
section
set_option maxHeartbeats 4000001
namespace L2
open PySem PySem.Spec PyProof.Rows Own Ts
end L2
end
section
set_option maxHeartbeats 4000001
namespace Bn
open PySem L2 Own
theorem atNew {H : Hp} {a : Addr} (_ : H a = none) (o : HO) : L2.upd H a o a = some o := upd_same
end Bn
end
section
set_option maxHeartbeats 4000001
namespace L2
open PySem PySem.Spec PyProof.Rows Own
def rGetL (K : PySem.W.Frag) : V → V → Hp → VK → Prop := fun o i H Q => ∃ (p : Addr) (xs : List V) (j : Nat) (v : V), o = .ref p ∧ i = .int j ∧ SqL K H p xs ∧ xs[j]? = some v ∧ Q v H
theorem get_list {X : Cx} : PGet X (rGetL X.K) := by
  intro pins s σ H o i ov iv Q I ro ri h
  obtain ⟨p, xs, j, v, rfl, rfl, hq, hx, q⟩ := h
  cases ro
  obtain ⟨t, rfl⟩ := ri
  obtain ⟨its, r, pl, hz⟩ := I.list hq
  obtain ⟨u, eu, ru⟩ := r.get hx
  have jl := (List.getElem?_eq_some_iff.mp hx).1
  have z63 : sizeLine < 2 ^ 63 := by rw [sizeLine_eq]; decide
  exact wpAny_getItem_list pl.isList (Int.natCast_nonneg _) (by lia) (by simpa using eu) ⟨v, H, I, ru, q⟩
structure UseM (P : Program) (w : World) (K : PySem.W.Frag) (mg : Str → Option Value) (base : Heap) (C : Addr) (x : Str) (ps : List Str) (k : Nat) (sp : Sp) (f : Addr) (fd : FuncData) : Prop where
  ok : FnOk P w K mg base CX0 k f fd ps sp
  b : Binds K fd ps []
  mt : Meth K C x f
end L2
namespace Bn
open PySem L2 Own
def flds5 (n s p c u : Addr) : List (Str × V) := putF "numbers" (.ref u) (putF "came" (.ref c) (putF "spots" (.ref p) (putF "settings" (.ref s) (putF "net" (.ref n) []))))
section
variable {n s p c u : Addr}
theorem fl_net : (flds5 n s p c u).lookup ("net" : Str) = some (.ref n) := by
  unfold flds5
  rw [lookup_putF, if_neg (by decide +kernel), lookup_putF, if_neg (by decide +kernel), lookup_putF, if_neg (by decide +kernel), lookup_putF, if_neg (by decide +kernel), lookup_putF, if_pos rfl]
theorem fl_set : (flds5 n s p c u).lookup ("settings" : Str) = some (.ref s) := by
  unfold flds5
  rw [lookup_putF, if_neg (by decide +kernel), lookup_putF, if_neg (by decide +kernel), lookup_putF, if_neg (by decide +kernel), lookup_putF, if_pos rfl]
theorem fl_spo : (flds5 n s p c u).lookup ("spots" : Str) = some (.ref p) := by
  unfold flds5
  rw [lookup_putF, if_neg (by decide +kernel), lookup_putF, if_neg (by decide +kernel), lookup_putF, if_pos rfl]
theorem fl_cam : (flds5 n s p c u).lookup ("came" : Str) = some (.ref c) := by
  unfold flds5
  rw [lookup_putF, if_neg (by decide +kernel), lookup_putF, if_pos rfl]
theorem fl_num : (flds5 n s p c u).lookup ("numbers" : Str) = some (.ref u) := by
  unfold flds5
  rw [lookup_putF, if_pos rfl]
theorem fl_no {m : Str} (h1 : ¬ m = "numbers") (h2 : ¬ m = "came") (h3 : ¬ m = "spots") (h4 : ¬ m = "settings") (h5 : ¬ m = "net") : (flds5 n s p c u).lookup m = none := by
  unfold flds5
  rw [lookup_putF, if_neg h1, lookup_putF, if_neg h2, lookup_putF, if_neg h3, lookup_putF, if_neg h4, lookup_putF, if_neg h5]; rfl
end
structure Tst where
  sets : List Nat
  spots : List (Option (Nat × Nat))
  came : List Nat
  nms : List Nat
structure Tad where
  t : Addr
  r : Addr
  fr : Addr
  er : Addr
  ps : List V
  ls : Addr
  lp : Addr
  lc : Addr
  ln : Addr
def SpotAt (H : Hp) (v : V) : Option (Nat × Nat) → Prop
  | none => v = .non
  | some (l, k) => ∃ q, v = .ref q ∧ H q = some (.tup [.int (l : Nat), .int (k : Nat)])
def Spots (H : Hp) (sp : List V) (os : List (Option (Nat × Nat))) : Prop := sp.length = os.length ∧ ∀ (i : Nat) (v : V) (o : Option (Nat × Nat)), sp[i]? = some v → os[i]? = some o → SpotAt H v o
theorem SpotAt.tups {H H' : Hp} (t : Tups H H') {v : V} : ∀ {o : Option (Nat × Nat)}, SpotAt H v o → SpotAt H' v o
  | none, h => h
  | some (l, k), ⟨q, e, h⟩ => ⟨q, e, t _ _ h⟩
theorem Spots.tups {H H' : Hp} (t : Tups H H') {sp : List V} {os : List (Option (Nat × Nat))} (h : Spots H sp os) : Spots H' sp os := ⟨h.1, fun i v o a b => (h.2 i v o a b).tups t⟩
theorem Spots.add {H : Hp} {sp : List V} {os : List (Option (Nat × Nat))} (h : Spots H sp os) {v : V} {o : Option (Nat × Nat)} (hv : SpotAt H v o) : Spots H (sp ++ [v]) (os ++ [o]) := by
  refine ⟨by rw [List.length_append, List.length_append, h.1]; rfl, fun i v' o' a b => ?_⟩
  by_cases c : i < sp.length
  · rw [List.getElem?_append_left c] at a
    rw [List.getElem?_append_left (by rw [← h.1]; exact c)] at b
    exact h.2 i v' o' a b
  · rw [List.getElem?_append_right (by lia)] at a
    rw [List.getElem?_append_right (by rw [← h.1]; lia), ← h.1] at b
    obtain ⟨z, e⟩ := List.getElem?_eq_some_iff.mp a
    have zi : i - sp.length = 0 := by simpa using z
    rw [zi] at a b
    cases a; cases b; exact hv
theorem Spots.set {H : Hp} {sp : List V} {os : List (Option (Nat × Nat))} (h : Spots H sp os) {v : V} {o : Option (Nat × Nat)} (hv : SpotAt H v o) (k : Nat) : Spots H (sp.set k v) (os.set k o) := by
  refine ⟨by rw [List.length_set, List.length_set, h.1], fun i v' o' a b => ?_⟩
  rw [List.getElem?_set] at a b
  by_cases c : k = i
  · rw [if_pos c] at a b
    by_cases d : k < sp.length
    · rw [if_pos d] at a
      rw [if_pos (by rw [← h.1]; exact d)] at b
      cases a; cases b; exact hv
    · rw [if_neg d] at a; cases a
  · rw [if_neg c] at a b
    exact h.2 i v' o' a b
structure TelAt (C : Addr) (H : Hp) (A : Tad) (N : Nt) (S : Tst) : Prop where
  ob : ∃ dx, H A.t = some (.ins C dx (flds5 A.r A.ls A.lp A.lc A.ln))
  na : NetAt H A.r A.fr A.er A.ps N
  hs : H A.ls = some (.lst (nums S.sets))
  hp : ∃ sp, H A.lp = some (.lst sp) ∧ Spots H sp S.spots
  hc : H A.lc = some (.lst (nums S.came))
  hn : H A.ln = some (.lst (nums S.nms))
  d1 : A.ls ≠ A.lp
  d2 : A.ls ≠ A.lc
  d3 : A.ls ≠ A.ln
  d4 : A.lp ≠ A.lc
  d5 : A.lp ≠ A.ln
  d6 : A.lc ≠ A.ln
def But4 (A : Tad) (H H' : Hp) : Prop := ∀ b o, H b = some o → b ≠ A.ls → b ≠ A.lp → b ≠ A.lc → b ≠ A.ln → H' b = some o
theorem TelAt.keep {C : Addr} {H H' : Hp} {A : Tad} {N : Nt} {S : Tst} (T : TelAt C H A N S) (s : Same H H') : TelAt C H' A N S := by
  obtain ⟨dx, e⟩ := T.ob
  obtain ⟨sp, h1, h2⟩ := T.hp
  exact ⟨⟨dx, s _ _ e⟩, T.na.tups (Tups.of s), s _ _ T.hs, ⟨sp, s _ _ h1, h2.tups (Tups.of s)⟩, s _ _ T.hc, s _ _ T.hn, T.d1, T.d2, T.d3, T.d4, T.d5, T.d6⟩
structure OkS (N : Nt) (S : Tst) : Prop where
  sl : S.sets.length = N.forks.length
  sv : ∀ x ∈ S.sets, x < 2
  sp : ∀ l k, some (l, k) ∈ S.spots → l < N.lanes ∧ k ≤ N.forks.length
  cl : S.came.length = N.lanes
def wayL (os : List (Option (Nat × Nat))) : List Nat := (List.range os.length).filter fun i => (os.getD i none).isSome
def S0 (N : Nt) : Tst := ⟨List.replicate N.forks.length 0, [], List.replicate N.lanes 0, []⟩
theorem ok0 (N : Nt) : OkS N (S0 N) := ⟨List.length_replicate, fun x hx => by rw [List.eq_of_mem_replicate hx]; decide, fun l k h => by simp [S0] at h, List.length_replicate⟩
def endN (N : Nt) (lane : Nat) : Nat := N.ends.idxOf lane
theorem end_lt {N : Nt} (ok : N.Ok) {lane : Nat} (h : lane < N.lanes) : endN N lane < N.lanes := by
  have el : N.ends.length = N.lanes := by rw [ok.en.length_eq, List.length_range]
  rw [← el]
  exact List.idxOf_lt_length_of_mem (ok.en.mem_iff.mpr (List.mem_range.mpr h))
def outT (N : Nt) (S : Tst) (ball lane : Nat) : Tst := ⟨S.sets, S.spots.set ball none, S.came.set (endN N lane) (S.came.getD (endN N lane) 0 + 1), S.nms ++ [endN N lane + N.lanes * S.came.getD (endN N lane) 0]⟩
def onT (N : Nt) (S : Tst) (ball k : Nat) : Nat := if S.sets.getD k 0 = 0 then (N.forks.getD k (0, 0)).1 else (N.forks.getD k (0, 0)).2
def goT (N : Nt) (S : Tst) (ball k k' : Nat) : Tst := ⟨S.sets.set k (1 - S.sets.getD k 0), S.spots.set ball (some (onT N S ball k, k')), S.came, S.nms⟩
theorem mem_set {α : Type} {l : List α} {i : Nat} {a x : α} (h : x ∈ l.set i a) : x ∈ l ∨ x = a := by
  obtain ⟨j, hj⟩ := List.mem_iff_getElem?.mp h
  rw [List.getElem?_set] at hj
  split at hj
  · split at hj
    · exact .inr (Option.some.inj hj).symm
    · cases hj
  · exact .inl (List.mem_of_getElem? hj)
theorem OkS.start {N : Nt} {S : Tst} (h : OkS N S) {lane k : Nat} (hl : lane < N.lanes) (hk : k ≤ N.forks.length) : OkS N { S with spots := S.spots ++ [some (lane, k)] } :=
  ⟨h.sl, h.sv, fun l k' m => by
    rcases List.mem_append.mp m with m | m
    · exact h.sp l k' m
    · have := List.mem_singleton.mp m
      cases this; exact ⟨hl, hk⟩, h.cl⟩
theorem OkS.out {N : Nt} {S : Tst} (h : OkS N S) (ball lane : Nat) : OkS N (outT N S ball lane) := by
  refine ⟨h.sl, h.sv, fun l k m => ?_, ?_⟩
  · rcases mem_set m with m | m
    · exact h.sp l k m
    · cases m
  · show (S.came.set _ _).length = _
    rw [List.length_set]; exact h.cl
theorem OkS.go {N : Nt} {S : Tst} (ok : N.Ok) (h : OkS N S) {ball k k' : Nat} (hk : k < N.forks.length) (hk' : k' ≤ N.forks.length) : onT N S ball k < N.lanes ∧ OkS N (goT N S ball k k') := by
  have f := ok.fk _ (List.getElem_mem hk)
  have ef : N.forks.getD k (0, 0) = N.forks[k] := by rw [List.getD_eq_getElem?_getD, List.getElem?_eq_getElem hk]; rfl
  have on : onT N S ball k < N.lanes := by
    unfold onT
    rw [ef]
    split
    · exact f.1
    · exact f.2.1
  refine ⟨on, by show (S.sets.set _ _).length = _; rw [List.length_set]; exact h.sl, fun x m => ?_, fun l q m => ?_, h.cl⟩
  · rcases mem_set m with m | m
    · exact h.sv x m
    · lia
  · rcases mem_set m with m | m
    · exact h.sp l q m
    · cases m; exact ⟨on, hk'⟩
def KpT (t : Addr) (H0 H : Hp) : Prop := ∀ b o, H0 b = some o → b ≠ t → H b = some o
theorem KpT.step {t : Addr} {H0 H H' : Hp} (k : KpT t H0 H) (s : Same H H') (o : HO) : KpT t H0 (L2.upd H' t o) := fun b o' e ne => by rw [upd_ne ne]; exact s _ _ (k b o' e ne)
theorem KpT.free {t a : Addr} {H0 H : Hp} {o : HO} (k : KpT t H0 H) (ht : H t = some o) (h : H a = none) : H0 a = none ∧ a ≠ t := by
  have ne : a ≠ t := fun e => by rw [e, ht] at h; cases h
  refine ⟨?_, ne⟩
  cases e : H0 a with
  | none => rfl
  | some o' => rw [k a o' e ne] at h; cases h
end Bn
end
section
set_option maxHeartbeats 4000001
namespace K26
open PySem L2 Own Bn
abbrev sTInit : Stmt := inClass (top 14) 0
abbrev sTStart : Stmt := inClass (top 14) 1
abbrev sTStep : Stmt := inClass (top 14) 2
abbrev sTNumber : Stmt := inClass (top 14) 3
abbrev sTWay : Stmt := inClass (top 14) 4
abbrev sTGiven : Stmt := inClass (top 14) 5
abbrev sTTurns : Stmt := inClass (top 14) 6
def spTInit (C : Addr) : Sp := fun vs H Q _ => ∃ (t dx r fr er : Addr) (ps : List V) (N : Nt), vs = [.ref t, .ref r] ∧ H t = some (.ins C dx []) ∧ Nt.Ok N ∧ NetAt H r fr er ps N ∧ ∀ (ls lp lc ln : Addr) (H' : Hp), H ls = none → H lp = none → H lc = none → H ln = none →
  TelAt C H' ⟨t, r, fr, er, ps, ls, lp, lc, ln⟩ N (S0 N) → (∀ b o, H b = some o → b ≠ t → H' b = some o) → Q .non H'
def spTStart (C : Addr) : Sp := fun vs H Q _ => ∃ (A : Tad) (N : Nt) (S : Tst) (lane : Nat), vs = [.ref A.t, .int lane] ∧ Nt.Ok N ∧ TelAt C H A N S ∧ OkS N S ∧ lane < N.lanes ∧ S.spots.length ≤ 1000 ∧
  ∀ (k : Nat) (H' : Hp), IsNext N.forks lane 0 k → TelAt C H' A N { S with spots := S.spots ++ [some (lane, k)] } → But4 A H H' → Q (.int (S.spots.length : Nat)) H'
def spTNumber (C : Addr) : Sp := fun vs H Q _ => ∃ (A : Tad) (N : Nt) (S : Tst) (e : Nat), vs = [.ref A.t, .int e] ∧ Nt.Ok N ∧ TelAt C H A N S ∧ OkS N S ∧ e < N.lanes ∧ S.nms.length ≤ 1000 ∧
  ∀ (H' : Hp), TelAt C H' A N { S with came := S.came.set e (S.came.getD e 0 + 1), nms := S.nms ++ [e + N.lanes * S.came.getD e 0] } → But4 A H H' → Q (.int (e + N.lanes * S.came.getD e 0 : Nat)) H'
def spTStep (C : Addr) : Sp := fun vs H Q _ => ∃ (A : Tad) (N : Nt) (S : Tst) (ball lane k : Nat), vs = [.ref A.t, .int ball] ∧ Nt.Ok N ∧ TelAt C H A N S ∧ OkS N S ∧ S.spots[ball]? = some (some (lane, k)) ∧ S.spots.length ≤ 1000 ∧ S.nms.length ≤ 1000 ∧
  (k = N.forks.length → ∀ H', TelAt C H' A N (outT N S ball lane) → But4 A H H' → Q (.int (endN N lane + N.lanes * S.came.getD (endN N lane) 0 : Nat)) H') ∧
  (k < N.forks.length → ∀ k' H', IsNext N.forks (onT N S ball k) (k + 1) k' → TelAt C H' A N (goT N S ball k k') → But4 A H H' → Q .non H')
def spTWay (C : Addr) : Sp := fun vs H Q _ => ∃ (A : Tad) (N : Nt) (S : Tst), vs = [.ref A.t] ∧ TelAt C H A N S ∧ S.spots.length ≤ 1000 ∧ ∀ p H', Same H H' → H' p = some (.tup (nums (wayL S.spots))) → Q (.ref p) H'
def spTGiven (C : Addr) : Sp := fun vs H Q _ => ∃ (A : Tad) (N : Nt) (S : Tst), vs = [.ref A.t] ∧ TelAt C H A N S ∧ S.nms.length ≤ 63 ∧ ∀ p ms H', Same H H' → ms.Perm S.nms → ms.Pairwise (· ≤ ·) → H' p = some (.tup (nums ms)) → Q (.ref p) H'
def spTTurns (C : Addr) : Sp := fun vs H Q _ => ∃ (A : Tad) (N : Nt) (S : Tst), vs = [.ref A.t] ∧ TelAt C H A N S ∧ ∀ p H', Same H H' → H' p = some (.tup (nums S.sets)) → Q (.ref p) H'
structure Txt (K : PySem.W.Frag) (mg : Str → Option Value) (C : Addr) : Prop where
  cl : Cls K C
  nN : NoAttr K C "net"
  nS : NoAttr K C "settings"
  nP : NoAttr K C "spots"
  nC : NoAttr K C "came"
  nU : NoAttr K C "numbers"
  mgC : mg "Teller" = some (.ref C)
theorem any_int {K : PySem.W.Frag} {H : Hp} (i : Int) : AnyT K H (.int i) := ⟨_, .int i, _, rfl⟩
theorem below_ok {i b : Nat} (h : i < b) : belowV (b : Nat) (.int (i : Nat)) = true := by
  show (decide ((0 : Int) ≤ (i : Nat)) && decide (((i : Nat) : Int) < (b : Nat))) = true
  rw [decide_eq_true (by lia), decide_eq_true (by lia)]; rfl
theorem rep_nums (n : Nat) : (List.replicate n [V.int 0]).flatten = nums (List.replicate n 0) := by
  induction n with
  | zero => rfl
  | succ n ih => rw [List.replicate_succ, List.flatten_cons, ih, List.replicate_succ]; rfl
theorem nums_at' (row : List Nat) (i : Nat) (h : i < row.length) : (nums row)[i]? = some (.int ((row.getD i 0 : Nat) : Int)) := by
  unfold nums
  rw [List.getElem?_map, List.getElem?_eq_getElem h, List.getD_eq_getElem?_getD, List.getElem?_eq_getElem h]; rfl
theorem nums_set (row : List Nat) (i x : Nat) : (nums row).set i (.int (x : Nat)) = nums (row.set i x) := by
  unfold nums
  rw [List.map_set]
section
variable {P : Program} {w : World} {K : PySem.W.Frag} {mg : Str → Option Value} {base : Heap} {C : Addr}
theorem scTi : FnScope ["self", "net"] ["self", "net"] (defScope sTInit) := ⟨rfl, rfl, rfl, by decide +kernel, rfl, by decide +kernel, by decide +kernel⟩
theorem ok_tinit {f : Addr} {fd : FuncData} (F : Fun K "__init__" "Teller.__init__" sTInit f fd) (G : Mgs mg) (T : Txt K mg C) : FnOk P w K mg base CX0 1 f fd ["self", "net"] (spTInit C) := by
  refine F.ok scTi (fun vs H Q E h => ?_) (fun cdv A outer s H vs Q E hr h => ?_)
  · obtain ⟨t, dx, r, fr, er, ps, N, rfl, _⟩ := h
    rfl
  obtain ⟨t, dx, r, fr, er, ps, N, rfl, ht, ok, na, k⟩ := h
  refine ⟨_, (@pss_cons _ _ _ _ _ (@ps_fld _ _ _ _ _ _ _ _ (@pv _ 0 _ _ (by rfl) (by first | exact Or.inl rfl | exact Or.inr (Or.inl rfl) | exact Or.inr (Or.inr rfl)) (by decide) (by decide)) (@pv _ 1 _ _ (by rfl) (by first | exact Or.inl rfl | exact Or.inr (Or.inl rfl) | exact Or.inr (Or.inr rfl)) (by decide) (by decide)) rfl) (@pss_cons _ _ _ _ _ (@ps_fld _ _ _ _ _ _ _ _ (@pv _ 0 _ _ (by rfl) (by first | exact Or.inl rfl | exact Or.inr (Or.inl rfl) | exact Or.inr (Or.inr rfl)) (by decide) (by decide)) (@pe_op _ _ _ _ _ _ _ _ op_rep (@pe_lst _ _ _ _ (@pa_cons _ _ _ _ _ pe_int pa_nil (by rfl))) (@pe_callB _ _ _ _ _ _ _ _ _ call_len_seq (by rfl) G.len PySem.boot_len (@pa_cons _ _ _ _ _ (@pe_ix _ _ _ _ _ _ _ ix_tup (@pv _ 1 _ _ (by rfl) (by first | exact Or.inl rfl | exact Or.inr (Or.inl rfl) | exact Or.inr (Or.inr rfl)) (by decide) (by decide)) pe_int (fun _ _ => rfl)) pa_nil (by rfl)) (by decide) (by decide) (by rfl) (by rfl))) rfl) (@pss_cons _ _ _ _ _ (@ps_fld _ _ _ _ _ _ _ _ (@pv _ 0 _ _ (by rfl) (by first | exact Or.inl rfl | exact Or.inr (Or.inl rfl) | exact Or.inr (Or.inr rfl)) (by decide) (by decide)) (@pe_lst _ _ _ _ pa_nil) rfl) (@pss_cons _ _ _ _ _ (@ps_fld _ _ _ _ _ _ _ _ (@pv _ 0 _ _ (by rfl) (by first | exact Or.inl rfl | exact Or.inr (Or.inl rfl) | exact Or.inr (Or.inr rfl)) (by decide) (by decide)) (@pe_op _ _ _ _ _ _ _ _ op_rep (@pe_lst _ _ _ _ (@pa_cons _ _ _ _ _ pe_int pa_nil (by rfl))) (@pe_ix _ _ _ _ _ _ _ ix_tup (@pv _ 1 _ _ (by rfl) (by first | exact Or.inl rfl | exact Or.inr (Or.inl rfl) | exact Or.inr (Or.inr rfl)) (by decide) (by decide)) pe_int (fun _ _ => rfl))) rfl) (@pss_one _ _ _ (@ps_fld _ _ _ _ _ _ _ _ (@pv _ 0 _ _ (by rfl) (by first | exact Or.inl rfl | exact Or.inr (Or.inl rfl) | exact Or.inr (Or.inr rfl)) (by decide) (by decide)) (@pe_lst _ _ _ _ pa_nil) rfl)))))), ?_⟩
  have pl := na.prs.len
  have fm := ok.fm
  have l16 := ok.l16
  have rt : r ≠ t := fun e => by have := na.net; rw [e, ht] at this; cases this
  have ft : fr ≠ t := fun e => by have := na.forks; rw [e, ht] at this; cases this
  refine ⟨_, rfl, _, rfl, t, C, dx, [], rfl, ht, T.cl, T.nN, (by show 0 < 1000; decide), ?_⟩
  have k1 : KpT t H (L2.upd H t (.ins C dx (putF "net" (.ref r) []))) := fun b o e ne => by rw [upd_ne ne]; exact e
  have t1 : L2.upd H t (.ins C dx (putF "net" (.ref r) [])) t = some (.ins C dx (putF "net" (.ref r) [])) := upd_same
  generalize L2.upd H t (.ins C dx (putF "net" (.ref r) [])) = H1 at k1 t1
  refine ⟨(by show 1 ≤ sizeLine; decide), fun a1 ha1 => ?_⟩
  have s1 := same_new ha1 (.lst [.int 0])
  refine ⟨_, rfl, r, _, 1, _, rfl, rfl, SqT.of (s1 _ _ (k1 _ _ na.net rt)), rfl, fr, _, rfl, .inr (SqT.of (s1 _ _ (k1 _ _ na.forks ft))), a1, _, _, rfl, rfl, atNew ha1 _, by lia, by lia, (by rw [Int.toNat_natCast, sizeLine_eq]; show 1 * _ ≤ _; lia), fun ls hls => ?_⟩
  rw [Int.toNat_natCast, rep_nums]
  have s2 := same_new hls (.lst (nums (List.replicate ps.length 0)))
  have u2 := s1.trans s2
  have t2 := u2 _ _ t1
  obtain ⟨fls, nls⟩ := KpT.free (fun b o e ne => s1 _ _ (k1 b o e ne)) (s1 _ _ t1) hls
  refine ⟨_, rfl, t, C, dx, _, rfl, t2, T.cl, T.nS, (by show 1 < 1000; decide), ?_⟩
  have k3 := k1.step u2 (.ins C dx (putF "settings" (.ref ls) (putF "net" (.ref r) [])))
  have hs3 : L2.upd (L2.upd (L2.upd H1 a1 (.lst [.int 0])) ls (.lst (nums (List.replicate ps.length 0)))) t (.ins C dx (putF "settings" (.ref ls) (putF "net" (.ref r) []))) ls = some (.lst (nums (List.replicate ps.length 0))) := by rw [upd_ne nls]; exact atNew hls _
  have t3 := upd_same (H := L2.upd (L2.upd H1 a1 (.lst [.int 0])) ls (.lst (nums (List.replicate ps.length 0)))) (a := t) (o := .ins C dx (putF "settings" (.ref ls) (putF "net" (.ref r) [])))
  generalize L2.upd (L2.upd (L2.upd H1 a1 (.lst [.int 0])) ls (.lst (nums (List.replicate ps.length 0)))) t (.ins C dx (putF "settings" (.ref ls) (putF "net" (.ref r) []))) = H3 at k3 hs3 t3
  refine ⟨(by show 0 ≤ sizeLine; decide), fun lp hlp => ?_⟩
  have s4 := same_new hlp (.lst [])
  obtain ⟨flp, nlp⟩ := k3.free t3 hlp
  refine ⟨_, rfl, t, C, dx, _, rfl, s4 _ _ t3, T.cl, T.nP, (by show 2 < 1000; decide), ?_⟩
  have k5 := k3.step s4 (.ins C dx (putF "spots" (.ref lp) (putF "settings" (.ref ls) (putF "net" (.ref r) []))))
  have hs5 : L2.upd (L2.upd H3 lp (.lst [])) t (.ins C dx (putF "spots" (.ref lp) (putF "settings" (.ref ls) (putF "net" (.ref r) [])))) ls = some (.lst (nums (List.replicate ps.length 0))) := by rw [upd_ne nls]; exact s4 _ _ hs3
  have hp5 : L2.upd (L2.upd H3 lp (.lst [])) t (.ins C dx (putF "spots" (.ref lp) (putF "settings" (.ref ls) (putF "net" (.ref r) [])))) lp = some (.lst []) := by rw [upd_ne nlp]; exact atNew hlp _
  have t5 := upd_same (H := L2.upd H3 lp (.lst [])) (a := t) (o := .ins C dx (putF "spots" (.ref lp) (putF "settings" (.ref ls) (putF "net" (.ref r) []))))
  generalize L2.upd (L2.upd H3 lp (.lst [])) t (.ins C dx (putF "spots" (.ref lp) (putF "settings" (.ref ls) (putF "net" (.ref r) [])))) = H5 at k5 hs5 hp5 t5
  refine ⟨(by show 1 ≤ sizeLine; decide), fun a6 ha6 => ?_⟩
  have s6 := same_new ha6 (.lst [.int 0])
  refine ⟨_, rfl, r, _, 0, _, rfl, rfl, SqT.of (s6 _ _ (k5 _ _ na.net rt)), rfl, a6, _, _, rfl, rfl, atNew ha6 _, by lia, by lia, (by rw [Int.toNat_natCast, sizeLine_eq]; show 1 * _ ≤ _; lia), fun lc hlc => ?_⟩
  rw [Int.toNat_natCast, rep_nums]
  have s7 := same_new hlc (.lst (nums (List.replicate N.lanes 0)))
  have u7 := s6.trans s7
  obtain ⟨flc, nlc⟩ := KpT.free (fun b o e ne => s6 _ _ (k5 b o e ne)) (s6 _ _ t5) hlc
  refine ⟨_, rfl, t, C, dx, _, rfl, u7 _ _ t5, T.cl, T.nC, (by show 3 < 1000; decide), ?_⟩
  have d2 : ls ≠ lc := ne_of_none (s6 _ _ hs5) hlc
  have d4 : lp ≠ lc := ne_of_none (s6 _ _ hp5) hlc
  have k8 := k5.step u7 (.ins C dx (putF "came" (.ref lc) (putF "spots" (.ref lp) (putF "settings" (.ref ls) (putF "net" (.ref r) [])))))
  have hs8 : L2.upd (L2.upd (L2.upd H5 a6 (.lst [.int 0])) lc (.lst (nums (List.replicate N.lanes 0)))) t (.ins C dx (putF "came" (.ref lc) (putF "spots" (.ref lp) (putF "settings" (.ref ls) (putF "net" (.ref r) []))))) ls = some (.lst (nums (List.replicate ps.length 0))) := by rw [upd_ne nls]; exact u7 _ _ hs5
  have hp8 : L2.upd (L2.upd (L2.upd H5 a6 (.lst [.int 0])) lc (.lst (nums (List.replicate N.lanes 0)))) t (.ins C dx (putF "came" (.ref lc) (putF "spots" (.ref lp) (putF "settings" (.ref ls) (putF "net" (.ref r) []))))) lp = some (.lst []) := by rw [upd_ne nlp]; exact u7 _ _ hp5
  have hc8 : L2.upd (L2.upd (L2.upd H5 a6 (.lst [.int 0])) lc (.lst (nums (List.replicate N.lanes 0)))) t (.ins C dx (putF "came" (.ref lc) (putF "spots" (.ref lp) (putF "settings" (.ref ls) (putF "net" (.ref r) []))))) lc = some (.lst (nums (List.replicate N.lanes 0))) := by rw [upd_ne nlc]; exact atNew hlc _
  have t8 := upd_same (H := L2.upd (L2.upd H5 a6 (.lst [.int 0])) lc (.lst (nums (List.replicate N.lanes 0)))) (a := t) (o := .ins C dx (putF "came" (.ref lc) (putF "spots" (.ref lp) (putF "settings" (.ref ls) (putF "net" (.ref r) [])))))
  generalize L2.upd (L2.upd (L2.upd H5 a6 (.lst [.int 0])) lc (.lst (nums (List.replicate N.lanes 0)))) t (.ins C dx (putF "came" (.ref lc) (putF "spots" (.ref lp) (putF "settings" (.ref ls) (putF "net" (.ref r) []))))) = H8 at k8 hs8 hp8 hc8 t8
  refine ⟨(by show 0 ≤ sizeLine; decide), fun ln hln => ?_⟩
  have s9 := same_new hln (.lst [])
  obtain ⟨fln, nln⟩ := k8.free t8 hln
  refine ⟨_, rfl, t, C, dx, _, rfl, s9 _ _ t8, T.cl, T.nU, (by show 4 < 1000; decide), ?_⟩
  have d1 : ls ≠ lp := ne_of_none hs3 hlp
  refine k ls lp lc ln _ fls flp flc fln ⟨⟨dx, upd_same⟩, ?_, ?_, ⟨[], ?_, rfl, fun i v o a => by simp at a⟩, ?_, ?_, d1, d2, ne_of_none hs8 hln, d4, ne_of_none hp8 hln, ne_of_none hc8 hln⟩ (k8.step s9 _)
  · refine na.tups (fun a xs e => ?_)
    have ne : a ≠ t := fun z => by rw [z, ht] at e; cases e
    exact k8.step s9 _ _ _ e ne
  · show L2.upd (L2.upd H8 ln (.lst [])) t _ ls = some (.lst (nums (List.replicate N.forks.length 0)))
    rw [upd_ne nls, ← pl]; exact s9 _ _ hs8
  · rw [upd_ne nlp]; exact s9 _ _ hp8
  · rw [upd_ne nlc]; exact s9 _ _ hc8
  · rw [upd_ne nln]; exact atNew hln _
theorem scTs : FnScope ["self", "lane"] ["self", "lane"] (defScope sTStart) := ⟨rfl, rfl, rfl, by decide +kernel, rfl, by decide +kernel, by decide +kernel⟩
theorem ok_tstart {f fB fN : Addr} {fd dB dN : FuncData} (F : Fun K "start" "Teller.start" sTStart f fd) (G : Mgs mg) (T : Txt K mg C) (UB : Use P w K mg base "is_below" ["thing", "bound"] 2 (spBelow K) fB dB) (UN : Use P w K mg base "next_fork" ["net", "lane", "number"] 1 spNext fN dN) : FnOk P w K mg base CX0 3 f fd ["self", "lane"] (spTStart C) := by
  refine F.ok scTs (fun vs H Q E h => ?_) (fun cdv A outer s H vs Q E hr h => ?_)
  · obtain ⟨A', N, S, lane, rfl, _⟩ := h
    rfl
  obtain ⟨A', N, S, lane, rfl, ok, te, os, hl, hz, k⟩ := h
  have hr1 : Room 1 _ := hr.mono (by decide)
  refine ⟨_, (@pss_cons _ _ _ _ _ (@ps_if _ _ _ _ _ _ _ _ (@pt_not _ _ _ _ (@pt_val _ _ _ (@pe_call _ _ _ _ _ _ _ _ _ _ _ _ _ _ _ _ UB.ok hr (by rfl) UB.m UB.kp UB.b .nil pass0 (@pa_cons _ _ _ _ _ (@pv _ 1 _ _ (by rfl) (by first | exact Or.inl rfl | exact Or.inr (Or.inl rfl) | exact Or.inr (Or.inr rfl)) (by decide) (by decide)) (@pa_cons _ _ _ _ _ (@pe_ix _ _ _ _ _ _ _ ix_tup (@pe_fld _ _ _ _ _ (@pv _ 0 _ _ (by rfl) (by first | exact Or.inl rfl | exact Or.inr (Or.inl rfl) | exact Or.inr (Or.inr rfl)) (by decide) (by decide)) rfl) pe_int (fun _ _ => rfl)) pa_nil (by rfl)) (by rfl)) (by decide) (by rfl) (by rfl)) (by intro _; rfl))) (@pss_one _ _ _ ps_dead) pss_nil) (@pss_cons _ _ _ _ _ (@ps_expr _ _ _ _ (@pe_bm _ _ _ _ _ _ _ _ _ _ _ _ PySem.F.plainAttrs_list PySem.F.slot_list_append PySem.F.type_list_append mt_append (@pe_fld _ _ _ _ _ (@pv _ 0 _ _ (by rfl) (by first | exact Or.inl rfl | exact Or.inr (Or.inl rfl) | exact Or.inr (Or.inr rfl)) (by decide) (by decide)) rfl) (@pa_cons _ _ _ _ _ (@pe_tup _ _ _ _ _ (@pa_cons _ _ _ _ _ (@pv _ 1 _ _ (by rfl) (by first | exact Or.inl rfl | exact Or.inr (Or.inl rfl) | exact Or.inr (Or.inr rfl)) (by decide) (by decide)) (@pa_cons _ _ _ _ _ (@pe_call _ _ _ _ _ _ _ _ _ _ _ _ _ _ _ _ UN.ok hr1 (by rfl) UN.m UN.kp UN.b .nil pass0 (@pa_cons _ _ _ _ _ (@pe_fld _ _ _ _ _ (@pv _ 0 _ _ (by rfl) (by first | exact Or.inl rfl | exact Or.inr (Or.inl rfl) | exact Or.inr (Or.inr rfl)) (by decide) (by decide)) rfl) (@pa_cons _ _ _ _ _ (@pv _ 1 _ _ (by rfl) (by first | exact Or.inl rfl | exact Or.inr (Or.inl rfl) | exact Or.inr (Or.inr rfl)) (by decide) (by decide)) (@pa_cons _ _ _ _ _ pe_int pa_nil (by rfl)) (by rfl)) (by rfl)) (by decide) (by rfl) (by rfl)) pa_nil (by rfl)) (by rfl))) pa_nil (by rfl)) (by rfl) (by rfl) (by rfl) (by rfl) (by rfl)) (by rfl)) (@pss_one _ _ _ (@ps_ret _ _ _ _ (@pe_op _ _ _ _ _ _ _ _ op_sub (@pe_callB _ _ _ _ _ _ _ _ _ call_len_seq (by rfl) G.len PySem.boot_len (@pa_cons _ _ _ _ _ (@pe_fld _ _ _ _ _ (@pv _ 0 _ _ (by rfl) (by first | exact Or.inl rfl | exact Or.inr (Or.inl rfl) | exact Or.inr (Or.inr rfl)) (by decide) (by decide)) rfl) pa_nil (by rfl)) (by decide) (by decide) (by rfl) (by rfl)) pe_int))))), ?_⟩
  obtain ⟨dx, ob⟩ := te.ob
  obtain ⟨sp, hp, sr⟩ := te.hp
  refine ⟨_, rfl, _, rfl, A'.t, C, dx, _, _, rfl, ob, T.cl, T.nN, fl_net, A'.r, _, 0, _, rfl, rfl, SqT.of te.na.net, rfl, _, _, rfl, any_int _, _, rfl, ?_⟩
  rw [below_ok hl]
  refine iteF ?_
  refine ⟨_, rfl, A'.t, C, dx, _, _, rfl, ob, T.cl, T.nP, fl_spo, .inl ⟨rfl, _, SqL.of hp⟩, _, rfl, _, rfl, A'.t, C, dx, _, _, rfl, ob, T.cl, T.nN, fl_net, _, rfl, A'.r, A'.fr, A'.er, A'.ps, N, lane, 0, rfl, ok, te.na, Nat.zero_le _, fun m nm => ?_⟩
  refine ⟨(by show 2 ≤ sizeLine; decide), fun q hq => ?_⟩
  have s1 := same_new hq (.tup [.int (lane : Nat), .int (m : Nat)])
  have sl := sr.1
  refine ⟨A'.lp, sp, _, rfl, rfl, s1 _ _ hp, by rw [sizeLine_eq]; lia, ?_⟩
  have te1 := te.keep s1
  have tp : Tups (L2.upd H q (.tup [.int (lane : Nat), .int (m : Nat)])) (L2.upd (L2.upd H q (.tup [.int (lane : Nat), .int (m : Nat)])) A'.lp (.lst (sp ++ [.ref q]))) := Tups.lst (s1 _ _ hp)
  have tne : A'.t ≠ A'.lp := ne_of ob hp (by intro z; cases z)
  have te2 : TelAt C (L2.upd (L2.upd H q (.tup [.int (lane : Nat), .int (m : Nat)])) A'.lp (.lst (sp ++ [.ref q]))) A' N { S with spots := S.spots ++ [some (lane, m)] } := by
    obtain ⟨dx', ob'⟩ := te1.ob
    refine ⟨⟨dx', by rw [upd_ne tne]; exact ob'⟩, te1.na.tups tp, by rw [upd_ne te.d1]; exact te1.hs, ⟨_, upd_same, ?_⟩, by rw [upd_ne te.d4.symm]; exact te1.hc, by rw [upd_ne te.d5.symm]; exact te1.hn, te.d1, te.d2, te.d3, te.d4, te.d5, te.d6⟩
    exact ((sr.tups (Tups.of s1)).tups tp).add ⟨q, rfl, tp _ _ (atNew hq _)⟩
  have ob2 : L2.upd (L2.upd H q (.tup [.int (lane : Nat), .int (m : Nat)])) A'.lp (.lst (sp ++ [.ref q])) A'.t = some (.ins C dx (flds5 A'.r A'.ls A'.lp A'.lc A'.ln)) := by rw [upd_ne tne]; exact s1 _ _ ob
  refine ⟨_, rfl, A'.t, C, dx, _, _, rfl, ob2, T.cl, T.nP, fl_spo, A'.lp, _, rfl, .inl (SqL.of upd_same), _, _, rfl, rfl, ?_⟩
  have e : (((sp ++ [V.ref q]).length : Nat) : Int) - 1 = ((S.spots.length : Nat) : Int) := by rw [List.length_append, sl]; simp only [List.length_cons, List.length_nil]; lia
  have kk := k m _ nm te2 fun b o e1 _ n2 _ _ => by rw [upd_ne n2]; exact s1 _ _ e1
  show Q (.int _) _
  rw [e]; exact kk
theorem scTn : FnScope ["self", "end", "number"] ["self", "end"] (defScope sTNumber) := ⟨rfl, rfl, rfl, by decide +kernel, rfl, by decide +kernel, by decide +kernel⟩
theorem ok_tnumber {f : Addr} {fd : FuncData} (F : Fun K "number_at" "Teller.number_at" sTNumber f fd) (G : Mgs mg) (T : Txt K mg C) : FnOk P w K mg base CX0 1 f fd ["self", "end"] (spTNumber C) := by
  refine F.ok scTn (fun vs H Q E h => ?_) (fun cdv A outer s H vs Q E hr h => ?_)
  · obtain ⟨A', N, S, e, rfl, _⟩ := h
    rfl
  obtain ⟨A', N, S, e, rfl, ok, te, os, he, hz, k⟩ := h
  refine ⟨_, (@pss_cons _ _ _ _ _ (@ps_set _ _ 2 _ _ _ _ scTn.nd rfl (Or.inl rfl) (@pe_op _ _ _ _ _ _ _ _ op_add (@pv _ 1 _ _ (by rfl) (by first | exact Or.inl rfl | exact Or.inr (Or.inl rfl) | exact Or.inr (Or.inr rfl)) (by decide) (by decide)) (@pe_op _ _ _ _ _ _ _ _ op_mul (@pe_ix _ _ _ _ _ _ _ ix_tup (@pe_fld _ _ _ _ _ (@pv _ 0 _ _ (by rfl) (by first | exact Or.inl rfl | exact Or.inr (Or.inl rfl) | exact Or.inr (Or.inr rfl)) (by decide) (by decide)) rfl) pe_int (fun _ _ => rfl)) (@pe_ix _ _ _ _ _ _ _ ix_list (@pe_fld _ _ _ _ _ (@pv _ 0 _ _ (by rfl) (by first | exact Or.inl rfl | exact Or.inr (Or.inl rfl) | exact Or.inr (Or.inr rfl)) (by decide) (by decide)) rfl) (@pv _ 1 _ _ (by rfl) (by first | exact Or.inl rfl | exact Or.inr (Or.inl rfl) | exact Or.inr (Or.inr rfl)) (by decide) (by decide)) (fun _ _ => rfl)))) (by rfl) (by first | exact .inl rfl | exact .inr rfl | assumption)) (@pss_cons _ _ _ _ _ (@ps_augS _ _ _ _ _ _ _ _ _ _ _ _ _ (@pe_fld _ _ _ _ _ (@pv _ 0 _ _ (by rfl) (by first | exact Or.inl rfl | exact Or.inr (Or.inl rfl) | exact Or.inr (Or.inr rfl)) (by decide) (by decide)) rfl) (@pv _ 1 _ _ (by rfl) (by first | exact Or.inl rfl | exact Or.inr (Or.inl rfl) | exact Or.inr (Or.inr rfl)) (by decide) (by decide)) get_list pe_int ip_add set_list (by intros; rfl)) (@pss_cons _ _ _ _ _ (@ps_expr _ _ _ _ (@pe_bm _ _ _ _ _ _ _ _ _ _ _ _ PySem.F.plainAttrs_list PySem.F.slot_list_append PySem.F.type_list_append mt_append (@pe_fld _ _ _ _ _ (@pv _ 0 _ _ (by rfl) (by first | exact Or.inl rfl | exact Or.inr (Or.inl rfl) | exact Or.inr (Or.inr rfl)) (by decide) (by decide)) rfl) (@pa_cons _ _ _ _ _ (@pv _ 2 _ _ (by rfl) (by first | exact Or.inl rfl | exact Or.inr (Or.inl rfl) | exact Or.inr (Or.inr rfl)) (by decide) (by decide)) pa_nil (by rfl)) (by rfl) (by rfl) (by rfl) (by rfl) (by rfl)) (by rfl)) (@pss_one _ _ _ (@ps_ret _ _ _ _ (@pv _ 2 _ _ (by rfl) (by first | exact Or.inl rfl | exact Or.inr (Or.inl rfl) | exact Or.inr (Or.inr rfl)) (by decide) (by decide))))))), ?_⟩
  obtain ⟨dx, ob⟩ := te.ob
  obtain ⟨sp, hp, sr⟩ := te.hp
  have cl := os.cl
  have l16 := ok.l16
  have ec : e < S.came.length := by lia
  have at1 := nums_at' S.came e ec
  refine ⟨_, rfl, _, rfl, A'.t, C, dx, _, _, rfl, ob, T.cl, T.nN, fl_net, A'.r, _, 0, _, rfl, rfl, SqT.of te.na.net, rfl, _, rfl, A'.t, C, dx, _, _, rfl, ob, T.cl, T.nC, fl_cam, _, rfl, A'.lc, _, _, _, rfl, rfl, SqL.of te.hc, atI_nat at1, _, _, rfl, rfl, .inl ⟨by lia, by lia⟩, _, _, rfl, rfl, ?_⟩
  have ev : ((e : Nat) : Int) + ((N.lanes : Nat) : Int) * ((S.came.getD e 0 : Nat) : Int) = ((e + N.lanes * S.came.getD e 0 : Nat) : Int) := by rw [Int.natCast_add, Int.natCast_mul]
  simp only [ev]
  refine ⟨_, rfl, A'.t, C, dx, _, _, rfl, ob, T.cl, T.nC, fl_cam, _, rfl, A'.lc, _, e, _, rfl, rfl, SqL.of te.hc, at1, _, _, rfl, rfl, A'.lc, _, _, e, rfl, rfl, te.hc, ix_at (by rw [nums_len]; exact ec), ?_⟩
  have e1 : ((S.came.getD e 0 : Nat) : Int) + 1 = ((S.came.getD e 0 + 1 : Nat) : Int) := by lia
  dsimp only
  rw [e1, nums_set]
  have tne : A'.t ≠ A'.lc := ne_of ob te.hc (by intro z; cases z)
  have tne2 : A'.t ≠ A'.ln := ne_of ob te.hn (by intro z; cases z)
  have ob1 : L2.upd H A'.lc (.lst (nums (S.came.set e (S.came.getD e 0 + 1)))) A'.t = some (.ins C dx (flds5 A'.r A'.ls A'.lp A'.lc A'.ln)) := by rw [upd_ne tne]; exact ob
  have hn1 : L2.upd H A'.lc (.lst (nums (S.came.set e (S.came.getD e 0 + 1)))) A'.ln = some (.lst (nums S.nms)) := by rw [upd_ne te.d6.symm]; exact te.hn
  refine ⟨_, rfl, A'.t, C, dx, _, _, rfl, ob1, T.cl, T.nU, fl_num, .inl ⟨rfl, _, SqL.of hn1⟩, _, rfl, A'.ln, _, _, rfl, rfl, hn1, by rw [nums_len, sizeLine_eq]; lia, ?_⟩
  have tp1 : Tups H (L2.upd H A'.lc (.lst (nums (S.came.set e (S.came.getD e 0 + 1))))) := Tups.lst te.hc
  have tp2 := Tups.lst (ys := nums S.nms ++ [.int ((e + N.lanes * S.came.getD e 0 : Nat) : Int)]) hn1
  have en : nums S.nms ++ [V.int ((e + N.lanes * S.came.getD e 0 : Nat) : Int)] = nums (S.nms ++ [e + N.lanes * S.came.getD e 0]) := by unfold nums; rw [List.map_append]; rfl
  refine ⟨_, rfl, ?_⟩
  refine k _ ⟨⟨dx, by rw [upd_ne tne2]; exact ob1⟩, (te.na.tups tp1).tups tp2, ?_, ⟨sp, ?_, (sr.tups tp1).tups tp2⟩, ?_, ?_, te.d1, te.d2, te.d3, te.d4, te.d5, te.d6⟩ fun b o e1 _ _ n3 n4 => ?_
  · rw [upd_ne te.d3, upd_ne te.d2]; exact te.hs
  · rw [upd_ne te.d5, upd_ne te.d4]; exact hp
  · rw [upd_ne te.d6, upd_same]
  · rw [upd_same, en]
  · rw [upd_ne n4, upd_ne n3]; exact e1
theorem scTt : FnScope ["self"] ["self"] (defScope sTTurns) := ⟨rfl, rfl, rfl, by decide +kernel, rfl, by decide +kernel, by decide +kernel⟩
theorem ok_tturns {f : Addr} {fd : FuncData} (F : Fun K "turns" "Teller.turns" sTTurns f fd) (G : Mgs mg) (T : Txt K mg C) : FnOk P w K mg base CX0 1 f fd ["self"] (spTTurns C) := by
  refine F.ok scTt (fun vs H Q E h => ?_) (fun cdv A outer s H vs Q E hr h => ?_)
  · obtain ⟨A', N, S, rfl, _⟩ := h
    rfl
  obtain ⟨A', N, S, rfl, te, k⟩ := h
  refine ⟨_, (@pss_one _ _ _ (@ps_ret _ _ _ _ (@pe_callTy _ _ _ _ _ _ _ _ _ call_tuple_of (by rfl) G.tuple (by rfl) (@pa_cons _ _ _ _ _ (@pe_fld _ _ _ _ _ (@pv _ 0 _ _ (by rfl) (by first | exact Or.inl rfl | exact Or.inr (Or.inl rfl) | exact Or.inr (Or.inr rfl)) (by decide) (by decide)) rfl) pa_nil (by rfl)) (by decide) (by decide) (by rfl) (by rfl)))), ?_⟩
  obtain ⟨dx, ob⟩ := te.ob
  exact ⟨_, rfl, A'.t, C, dx, _, _, rfl, ob, T.cl, T.nS, fl_set, A'.ls, _, rfl, .inl ⟨SqL.of te.hs, fun p hp => k p _ (same_new hp _) (atNew hp _)⟩⟩
theorem scTg : FnScope ["self"] ["self"] (defScope sTGiven) := ⟨rfl, rfl, rfl, by decide +kernel, rfl, by decide +kernel, by decide +kernel⟩
theorem ok_tgiven {f : Addr} {fd : FuncData} (F : Fun K "given" "Teller.given" sTGiven f fd) (G : Mgs mg) (T : Txt K mg C) : FnOk P w K mg base CX0 1 f fd ["self"] (spTGiven C) := by
  refine F.ok scTg (fun vs H Q E h => ?_) (fun cdv A outer s H vs Q E hr h => ?_)
  · obtain ⟨A', N, S, rfl, _⟩ := h
    rfl
  obtain ⟨A', N, S, rfl, te, hz, k⟩ := h
  refine ⟨_, (@pss_one _ _ _ (@ps_ret _ _ _ _ (@pe_callTy _ _ _ _ _ _ _ _ _ call_tuple_of (by rfl) G.tuple (by rfl) (@pa_cons _ _ _ _ _ (@pe_callB _ _ _ _ _ _ _ _ _ (call_sortedX true hr.units) (by rfl) G.sorted (by rfl) (@pa_cons _ _ _ _ _ (@pe_fld _ _ _ _ _ (@pv _ 0 _ _ (by rfl) (by first | exact Or.inl rfl | exact Or.inr (Or.inl rfl) | exact Or.inr (Or.inr rfl)) (by decide) (by decide)) rfl) pa_nil (by rfl)) (by decide) (by decide) (by rfl) (by rfl)) pa_nil (by rfl)) (by decide) (by decide) (by rfl) (by rfl)))), ?_⟩
  obtain ⟨dx, ob⟩ := te.ob
  refine ⟨_, rfl, A'.t, C, dx, _, _, rfl, ob, T.cl, T.nU, fl_num, A'.ln, _, (fun x => match x with | .int i => i | _ => 0), rfl, SqL.of te.hn, by rw [nums_len]; lia, .inl fun x hx => ?_, fun l ys hl pm so => ?_⟩
  · obtain ⟨i, _, rfl⟩ := List.mem_map.mp hx
    exact ⟨_, rfl, rfl⟩
  have s1 := same_new hl (.lst ys)
  obtain ⟨ms, e1, e2⟩ : ∃ ms : List Nat, ys = nums ms ∧ ms.Perm S.nms := by
    refine ⟨ys.map fun x => match x with | .int i => i.toNat | _ => 0, ?_, ?_⟩
    · unfold nums
      rw [List.map_map]
      conv => lhs; rw [← List.map_id ys]
      refine List.map_congr_left fun x hx => ?_
      obtain ⟨i, _, rfl⟩ := List.mem_map.mp (pm.mem_iff.mp hx)
      rfl
    · have := pm.map fun x => match x with | .int i => i.toNat | _ => 0
      refine this.trans (List.Perm.of_eq ?_)
      unfold nums
      rw [List.map_map]
      conv => rhs; rw [← List.map_id S.nms]
      exact List.map_congr_left fun x _ => rfl
  subst e1
  refine ⟨l, _, rfl, .inl ⟨SqL.of (atNew hl _), fun p hp => k p ms _ (s1.trans (same_new hp _)) e2 ?_ (atNew hp _)⟩⟩
  unfold nums at so
  rw [List.pairwise_map] at so
  exact so.imp fun h => by simpa using h
theorem scTw : FnScope ["self"] ["self"] (defScope sTWay) := ⟨rfl, rfl, rfl, by decide +kernel, rfl, by decide +kernel, by decide +kernel⟩
theorem ok_tway {f : Addr} {fd : FuncData} (F : Fun K "way" "Teller.way" sTWay f fd) (G : Mgs mg) (T : Txt K mg C) : FnOk P w K mg base CX0 1 f fd ["self"] (spTWay C) := by
  refine F.ok scTw (fun vs H Q E h => ?_) (fun cdv A outer s H vs Q E hr h => ?_)
  · obtain ⟨A', N, S, rfl, _⟩ := h
    rfl
  obtain ⟨A', N, S, rfl, te, hz, k⟩ := h
  refine ⟨_, (@pss_one _ _ _ (@ps_ret _ _ _ _ (@pe_callTy _ _ _ _ _ _ _ _ _ call_tuple_of (by rfl) G.tuple (by rfl) (@pa_cons _ _ _ _ _ (@pe_lc _ _ _ _ (some _) _ _ _ (gTup K 2 (gCons (gName 0) (gCons (gName 1) gNil))) _ _ ["ball", "spot"] [none, none] rfl (@pi_enum _ _ _ _ _ _ _ _ true rfl G.enum (@pa_cons _ _ _ _ _ (@pe_fld _ _ _ _ _ (@pv _ 0 _ _ (by rfl) (by first | exact Or.inl rfl | exact Or.inr (Or.inl rfl) | exact Or.inr (Or.inr rfl)) (by decide) (by decide)) rfl) pa_nil (by rfl)) (by rfl)) (CapOk.of (by kernel_rfl)) (fun _ _ _ _ _ => (@pg_tup _ _ _ _ _ _ rfl (@pgs_cons _ _ _ _ _ (@pg_name _ _ 0 _ (show (["ball", "spot"] : List Str).Nodup from by decide +kernel) rfl (Or.inl rfl) (Or.inr rfl)) (@pgs_cons _ _ _ _ _ (@pg_name _ _ 1 _ (show (["ball", "spot"] : List Str).Nodup from by decide +kernel) rfl (Or.inl rfl) (Or.inr rfl)) pgs_nil (by rfl)) (by rfl)) (by rfl) (by rfl))) (fun _ _ _ _ _ => (@pt_some _ _ _ (@pt_cmpR _ _ _ _ _ _ _ _ op_notN (@pv _ 1 _ _ (by rfl) (by first | exact Or.inl rfl | exact Or.inr (Or.inl rfl) | exact Or.inr (Or.inr rfl)) (by decide) (by decide)) pe_non (by rfl)))) (fun _ _ _ _ _ => (@pv _ 0 _ _ (by rfl) (by first | exact Or.inl rfl | exact Or.inr (Or.inl rfl) | exact Or.inr (Or.inr rfl)) (by decide) (by decide))) (by intro _; rfl)) pa_nil (by rfl)) (by decide) (by decide) (by rfl) (by rfl)))), ?_⟩
  obtain ⟨dx, ob⟩ := te.ob
  obtain ⟨sp, hp, sr⟩ := te.hp
  have sl := sr.1
  refine ⟨_, rfl, A'.t, C, dx, _, _, rfl, ob, T.cl, T.nP, fl_spo, A'.lp, _, rfl, SqL.of hp, fun l hl => ?_⟩
  refine lc_enumT (K := K) (b := true) (a := A'.lp) (xs := sp) (fun i acc σ H2 => (∃ v0 v1, σ = [v0, v1]) ∧ Same H H2 ∧ H2 l = some (.lst acc) ∧ acc = nums ((List.range i).filter fun j => (S.spots.getD j none).isSome)) ⟨⟨_, _, rfl⟩, same_new hl _, upd_same, rfl⟩ (fun i acc σ H2 z => ⟨z.2.2.1, SqL.of (z.2.1 _ _ hp)⟩) ?_ ?_
  · rintro i acc σ H2 x Tt hx hT ⟨⟨v0, v1, rfl⟩, s2, h2, e2⟩
    have il := (List.getElem?_eq_some_iff.mp hx).1
    have io : i < S.spots.length := by lia
    have s3 := same_new hT (.tup [.int (i : Nat), x])
    refine ⟨Tt, _, rfl, SqT.of (atNew hT _), rfl, _, _, rfl, _, _, rfl, rfl, ?_⟩
    refine ⟨_, rfl, rfl, _, rfl, ?_⟩
    have sa := sr.2 i x _ hx (List.getElem?_eq_getElem io)
    have eg : S.spots.getD i none = S.spots[i] := by rw [List.getD_eq_getElem?_getD, List.getElem?_eq_getElem io]; rfl
    have al : acc.length ≤ 1000 := by
      rw [e2, nums_len]
      exact Nat.le_trans (List.length_filter_le _ _) (by rw [List.length_range]; lia)
    cases es : S.spots[i] with
    | none =>
      rw [es] at sa
      obtain rfl : x = .non := sa
      rw [decide_eq_true rfl]
      refine iteF (nx il ⟨⟨_, _, rfl⟩, s2.trans s3, s3 _ _ h2, ?_⟩)
      rw [e2, List.range_succ, List.filter_append, List.filter_cons, eg, es]; simp
    | some o =>
      rw [es] at sa
      obtain ⟨q, rfl, _⟩ : ∃ q, x = .ref q ∧ True := by
        obtain ⟨l1, k1⟩ := o
        obtain ⟨q, rfl, _⟩ := sa
        exact ⟨q, rfl, trivial⟩
      rw [decide_eq_false (by intro z; cases z)]
      refine iteT ⟨_, rfl, s3 _ _ h2, by rw [sizeLine_eq]; lia, nx il ⟨⟨_, _, rfl⟩, fun b o e => ?_, upd_same, ?_⟩⟩
      · rw [upd_ne (ne_of_none e hl)]; exact s3 _ _ (s2 b o e)
      · rw [e2, List.range_succ, List.filter_append, List.filter_cons, eg, es]
        unfold nums
        rw [List.map_append]; rfl
  rintro acc σ H2 ⟨⟨v0, v1, rfl⟩, s2, h2, e2⟩
  rw [sl] at e2
  rw [e2] at h2
  exact ⟨l, _, rfl, .inl ⟨SqL.of h2, fun p hp' => k p _ (s2.trans (same_new hp' _)) (atNew hp' _)⟩⟩
end
end K26
end
section
set_option maxHeartbeats 4000001
namespace K26
open PySem L2 Own Bn
theorem two_at (f : Nat × Nat) (t : Nat) (h : t < 2) : ([V.int (f.1 : Nat), V.int (f.2 : Nat)] : List V)[t]? = some (.int ((if t = 0 then f.1 else f.2 : Nat) : Int)) := by
  match t, h with
  | 0, _ => rfl
  | 1, _ => rfl
section
variable {P : Program} {w : World} {K : PySem.W.Frag} {mg : Str → Option Value} {base : Heap} {C : Addr}
theorem scTp : FnScope ["self", "ball", "lane", "number", "turn", "onward"] ["self", "ball"] (defScope sTStep) := ⟨rfl, rfl, rfl, by decide +kernel, rfl, by decide +kernel, by decide +kernel⟩
theorem ok_tstep {f fB fN fE fM : Addr} {fd dB dN dE dM : FuncData} (F : Fun K "step" "Teller.step" sTStep f fd) (G : Mgs mg) (T : Txt K mg C) (UB : Use P w K mg base "is_below" ["thing", "bound"] 2 (spBelow K) fB dB) (UN : Use P w K mg base "next_fork" ["net", "lane", "number"] 1 spNext fN dN) (UE : Use P w K mg base "end_of" ["net", "lane"] 1 spEnd fE dE)
    (UM : UseM P w K mg base C "number_at" ["self", "end"] 1 (spTNumber C) fM dM) : FnOk P w K mg base CX0 3 f fd ["self", "ball"] (spTStep C) := by
  refine F.ok scTp (fun vs H Q E h => ?_) (fun cdv A outer s H vs Q E hr h => ?_)
  · obtain ⟨A', N, S, ball, lane, k, rfl, _⟩ := h
    rfl
  obtain ⟨A', N, S, ball, lane, k, rfl, ok, te, os, hb, hz, hn, kout, kgo⟩ := h
  have hr1 : Room 1 _ := hr.mono (by decide)
  refine ⟨_, (@pss_cons _ _ _ _ _ (@ps_if _ _ _ _ _ _ _ _ (@pw_or _ _ _ _ _ _ _ (@pt_not _ _ _ _ (@pt_val _ _ _ (@pe_call _ _ _ _ _ _ _ _ _ _ _ _ _ _ _ _ UB.ok hr (by rfl) UB.m UB.kp UB.b .nil pass0 (@pa_cons _ _ _ _ _ (@pv _ 1 _ _ (by rfl) (by first | exact Or.inl rfl | exact Or.inr (Or.inl rfl) | exact Or.inr (Or.inr rfl)) (by decide) (by decide)) (@pa_cons _ _ _ _ _ (@pe_callB _ _ _ _ _ _ _ _ _ call_len_seq (by rfl) G.len PySem.boot_len (@pa_cons _ _ _ _ _ (@pe_fld _ _ _ _ _ (@pv _ 0 _ _ (by rfl) (by first | exact Or.inl rfl | exact Or.inr (Or.inl rfl) | exact Or.inr (Or.inr rfl)) (by decide) (by decide)) rfl) pa_nil (by rfl)) (by decide) (by decide) (by rfl) (by rfl)) pa_nil (by rfl)) (by rfl)) (by decide) (by rfl) (by rfl)) (by intro _; rfl))) (@pw_or1 _ _ _ _ (@pt_cmpR _ _ _ _ _ _ _ _ op_isN (@pe_ix _ _ _ _ _ _ _ ix_list (@pe_fld _ _ _ _ _ (@pv _ 0 _ _ (by rfl) (by first | exact Or.inl rfl | exact Or.inr (Or.inl rfl) | exact Or.inr (Or.inr rfl)) (by decide) (by decide)) rfl) (@pv _ 1 _ _ (by rfl) (by first | exact Or.inl rfl | exact Or.inr (Or.inl rfl) | exact Or.inr (Or.inr rfl)) (by decide) (by decide)) (fun _ _ => rfl)) pe_non (by rfl)))).pt (@pss_one _ _ _ ps_dead) pss_nil) (@pss_cons _ _ _ _ _ (@ps_asg _ _ _ _ _ _ (@pe_ix _ _ _ _ _ _ _ ix_list (@pe_fld _ _ _ _ _ (@pv _ 0 _ _ (by rfl) (by first | exact Or.inl rfl | exact Or.inr (Or.inl rfl) | exact Or.inr (Or.inr rfl)) (by decide) (by decide)) rfl) (@pv _ 1 _ _ (by rfl) (by first | exact Or.inl rfl | exact Or.inr (Or.inl rfl) | exact Or.inr (Or.inr rfl)) (by decide) (by decide)) (fun _ _ => rfl)) (@pg_tup _ _ _ _ _ _ rfl (@pgs_cons _ _ _ _ _ (@pg_name _ _ 2 _ scTp.nd rfl (Or.inl rfl) (by first | exact .inl rfl | exact .inr rfl | assumption)) (@pgs_cons _ _ _ _ _ (@pg_name _ _ 3 _ scTp.nd rfl (Or.inl rfl) (by first | exact .inl rfl | exact .inr rfl | assumption)) pgs_nil (by rfl)) (by rfl)) (by rfl) (by rfl)) (by rfl) (by rfl) (by rfl)) (@pss_cons _ _ _ _ _ (@ps_if _ _ _ _ _ _ _ _ (@pt_cmpR _ _ _ _ _ _ _ _ op_eq (@pv _ 3 _ _ (by rfl) (by first | exact Or.inl rfl | exact Or.inr (Or.inl rfl) | exact Or.inr (Or.inr rfl)) (by decide) (by decide)) (@pe_callB _ _ _ _ _ _ _ _ _ call_len_seq (by rfl) G.len PySem.boot_len (@pa_cons _ _ _ _ _ (@pe_ix _ _ _ _ _ _ _ ix_tup (@pe_fld _ _ _ _ _ (@pv _ 0 _ _ (by rfl) (by first | exact Or.inl rfl | exact Or.inr (Or.inl rfl) | exact Or.inr (Or.inr rfl)) (by decide) (by decide)) rfl) pe_int (fun _ _ => rfl)) pa_nil (by rfl)) (by decide) (by decide) (by rfl) (by rfl)) (nomark _)) (@pss_cons _ _ _ _ _ (@ps_asg _ _ _ _ _ _ pe_non (@pg_sub _ _ _ _ _ _ _ (@pe_fld _ _ _ _ _ (@pv _ 0 _ _ (by rfl) (by first | exact Or.inl rfl | exact Or.inr (Or.inl rfl) | exact Or.inr (Or.inr rfl)) (by decide) (by decide)) rfl) (@pv _ 1 _ _ (by rfl) (by first | exact Or.inl rfl | exact Or.inr (Or.inl rfl) | exact Or.inr (Or.inr rfl)) (by decide) (by decide)) set_list (by intro _; rfl)) (by rfl) (by rfl) (by rfl)) (@pss_one _ _ _ (@ps_ret _ _ _ _ (@pe_meth _ _ _ _ _ _ _ _ _ _ _ _ _ _ _ _ _ _ _ _ (@pv _ 0 _ _ (by rfl) (by first | exact Or.inl rfl | exact Or.inr (Or.inl rfl) | exact Or.inr (Or.inr rfl)) (by decide) (by decide)) T.cl UM.mt UM.ok hr1 UM.b .nil pass0 (@pa_cons _ _ _ _ _ (@pe_call _ _ _ _ _ _ _ _ _ _ _ _ _ _ _ _ UE.ok hr1 (by rfl) UE.m UE.kp UE.b .nil pass0 (@pa_cons _ _ _ _ _ (@pe_fld _ _ _ _ _ (@pv _ 0 _ _ (by rfl) (by first | exact Or.inl rfl | exact Or.inr (Or.inl rfl) | exact Or.inr (Or.inr rfl)) (by decide) (by decide)) rfl) (@pa_cons _ _ _ _ _ (@pv _ 2 _ _ (by rfl) (by first | exact Or.inl rfl | exact Or.inr (Or.inl rfl) | exact Or.inr (Or.inr rfl)) (by decide) (by decide)) pa_nil (by rfl)) (by rfl)) (by decide) (by rfl) (by rfl)) pa_nil (by rfl)) (by rfl) (by rfl) (by rfl))))) pss_nil) (@pss_cons _ _ _ _ _ (@ps_set _ _ 4 _ _ _ _ scTp.nd rfl (Or.inl rfl) (@pe_ix _ _ _ _ _ _ _ ix_list (@pe_fld _ _ _ _ _ (@pv _ 0 _ _ (by rfl) (by first | exact Or.inl rfl | exact Or.inr (Or.inl rfl) | exact Or.inr (Or.inr rfl)) (by decide) (by decide)) rfl) (@pv _ 3 _ _ (by rfl) (by first | exact Or.inl rfl | exact Or.inr (Or.inl rfl) | exact Or.inr (Or.inr rfl)) (by decide) (by decide)) (fun _ _ => rfl)) (by rfl) (by first | exact .inl rfl | exact .inr rfl | assumption)) (@pss_cons _ _ _ _ _ (@ps_asg _ _ _ _ _ _ (@pe_op _ _ _ _ _ _ _ _ op_sub pe_int (@pv _ 4 _ _ (by rfl) (by first | exact Or.inl rfl | exact Or.inr (Or.inl rfl) | exact Or.inr (Or.inr rfl)) (by decide) (by decide))) (@pg_sub _ _ _ _ _ _ _ (@pe_fld _ _ _ _ _ (@pv _ 0 _ _ (by rfl) (by first | exact Or.inl rfl | exact Or.inr (Or.inl rfl) | exact Or.inr (Or.inr rfl)) (by decide) (by decide)) rfl) (@pv _ 3 _ _ (by rfl) (by first | exact Or.inl rfl | exact Or.inr (Or.inl rfl) | exact Or.inr (Or.inr rfl)) (by decide) (by decide)) set_list (by intro _; rfl)) (by rfl) (by rfl) (by rfl)) (@pss_cons _ _ _ _ _ (@ps_set _ _ 5 _ _ _ _ scTp.nd rfl (Or.inl rfl) (@pe_ix _ _ _ _ _ _ _ ix_tup (@pe_ix _ _ _ _ _ _ _ ix_tup (@pe_ix _ _ _ _ _ _ _ ix_tup (@pe_fld _ _ _ _ _ (@pv _ 0 _ _ (by rfl) (by first | exact Or.inl rfl | exact Or.inr (Or.inl rfl) | exact Or.inr (Or.inr rfl)) (by decide) (by decide)) rfl) pe_int (fun _ _ => rfl)) (@pv _ 3 _ _ (by rfl) (by first | exact Or.inl rfl | exact Or.inr (Or.inl rfl) | exact Or.inr (Or.inr rfl)) (by decide) (by decide)) (fun _ _ => rfl)) (@pv _ 4 _ _ (by rfl) (by first | exact Or.inl rfl | exact Or.inr (Or.inl rfl) | exact Or.inr (Or.inr rfl)) (by decide) (by decide)) (fun _ _ => rfl)) (by rfl) (by first | exact .inl rfl | exact .inr rfl | assumption)) (@pss_cons _ _ _ _ _ (@ps_asg _ _ _ _ _ _ (@pe_tup _ _ _ _ _ (@pa_cons _ _ _ _ _ (@pv _ 5 _ _ (by rfl) (by first | exact Or.inl rfl | exact Or.inr (Or.inl rfl) | exact Or.inr (Or.inr rfl)) (by decide) (by decide)) (@pa_cons _ _ _ _ _ (@pe_call _ _ _ _ _ _ _ _ _ _ _ _ _ _ _ _ UN.ok hr1 (by rfl) UN.m UN.kp UN.b .nil pass0 (@pa_cons _ _ _ _ _ (@pe_fld _ _ _ _ _ (@pv _ 0 _ _ (by rfl) (by first | exact Or.inl rfl | exact Or.inr (Or.inl rfl) | exact Or.inr (Or.inr rfl)) (by decide) (by decide)) rfl) (@pa_cons _ _ _ _ _ (@pv _ 5 _ _ (by rfl) (by first | exact Or.inl rfl | exact Or.inr (Or.inl rfl) | exact Or.inr (Or.inr rfl)) (by decide) (by decide)) (@pa_cons _ _ _ _ _ (@pe_op _ _ _ _ _ _ _ _ op_add (@pv _ 3 _ _ (by rfl) (by first | exact Or.inl rfl | exact Or.inr (Or.inl rfl) | exact Or.inr (Or.inr rfl)) (by decide) (by decide)) pe_int) pa_nil (by rfl)) (by rfl)) (by rfl)) (by decide) (by rfl) (by rfl)) pa_nil (by rfl)) (by rfl))) (@pg_sub _ _ _ _ _ _ _ (@pe_fld _ _ _ _ _ (@pv _ 0 _ _ (by rfl) (by first | exact Or.inl rfl | exact Or.inr (Or.inl rfl) | exact Or.inr (Or.inr rfl)) (by decide) (by decide)) rfl) (@pv _ 1 _ _ (by rfl) (by first | exact Or.inl rfl | exact Or.inr (Or.inl rfl) | exact Or.inr (Or.inr rfl)) (by decide) (by decide)) set_list (by intro _; rfl)) (by rfl) (by rfl) (by rfl)) (@pss_one _ _ _ (@ps_ret _ _ _ _ pe_non))))))))), ?_⟩
  obtain ⟨dx, ob⟩ := te.ob
  obtain ⟨sp, hp, sr⟩ := te.hp
  have sl := sr.1
  have bl := (List.getElem?_eq_some_iff.mp hb).1
  have bs : ball < sp.length := by lia
  obtain ⟨hl, hk⟩ := os.sp lane k (List.mem_of_getElem? hb)
  have hx : sp[ball]? = some sp[ball] := List.getElem?_eq_getElem bs
  obtain ⟨q, eq, hq⟩ := sr.2 ball _ _ hx hb
  rw [eq] at hx
  have pl := te.na.prs.len
  refine ⟨_, rfl, _, rfl, A'.t, C, dx, _, _, rfl, ob, T.cl, T.nP, fl_spo, A'.lp, _, rfl, .inl (SqL.of hp), _, _, rfl, any_int _, _, rfl, ?_⟩
  rw [below_ok bs]
  refine iteF ⟨_, rfl, A'.t, C, dx, _, _, rfl, ob, T.cl, T.nP, fl_spo, _, rfl, A'.lp, _, _, _, rfl, rfl, SqL.of hp, atI_nat hx, rfl, _, rfl, ?_⟩
  rw [decide_eq_false (by intro z; cases z)]
  refine iteF ⟨_, rfl, A'.t, C, dx, _, _, rfl, ob, T.cl, T.nP, fl_spo, _, rfl, A'.lp, _, _, _, rfl, rfl, SqL.of hp, atI_nat hx, q, _, rfl, SqT.of hq, rfl, _, _, rfl, _, _, rfl, rfl, ?_⟩
  refine ⟨_, rfl, _, rfl, A'.t, C, dx, _, _, rfl, ob, T.cl, T.nN, fl_net, A'.r, _, 1, _, rfl, rfl, SqT.of te.na.net, rfl, A'.fr, _, rfl, .inr (SqT.of te.na.forks), rfl, _, rfl, ?_⟩
  have tnp : A'.t ≠ A'.lp := ne_of ob hp (by intro z; cases z)
  by_cases ke : k = N.forks.length
  · rw [decide_eq_true (show V.int ((k : Nat) : Int) = V.int ((A'.ps.length : Nat) : Int) by rw [pl, ke])]
    refine iteT ⟨_, rfl, A'.t, C, dx, _, _, rfl, ob, T.cl, T.nP, fl_spo, _, rfl, A'.lp, _, _, ball, rfl, rfl, hp, ix_at bs, ?_⟩
    have tp : Tups H (L2.upd H A'.lp (.lst (sp.set ball .non))) := Tups.lst hp
    have te1 : TelAt C (L2.upd H A'.lp (.lst (sp.set ball .non))) A' N { S with spots := S.spots.set ball none } :=
      ⟨⟨dx, by rw [upd_ne tnp]; exact ob⟩, te.na.tups tp, by rw [upd_ne te.d1]; exact te.hs, ⟨_, upd_same, (sr.tups tp).set (o := none) rfl ball⟩, by rw [upd_ne te.d4.symm]; exact te.hc, by rw [upd_ne te.d5.symm]; exact te.hn, te.d1, te.d2, te.d3, te.d4, te.d5, te.d6⟩
    have os1 : OkS N { S with spots := S.spots.set ball none } := by
      refine ⟨os.sl, os.sv, fun l k' m => ?_, os.cl⟩
      rcases mem_set m with m | m
      · exact os.sp l k' m
      · cases m
    have ob1 : L2.upd H A'.lp (.lst (sp.set ball .non)) A'.t = some (.ins C dx (flds5 A'.r A'.ls A'.lp A'.lc A'.ln)) := by rw [upd_ne tnp]; exact ob
    refine ⟨_, rfl, A'.t, dx, _, rfl, ob1, fl_no (by decide +kernel) (by decide +kernel) (by decide +kernel) (by decide +kernel) (by decide +kernel), _, rfl, A'.t, C, dx, _, _, rfl, ob1, T.cl, T.nN, fl_net, _, rfl, A'.r, A'.fr, A'.er, A'.ps, N, lane, rfl, ok, te1.na, hl, ?_⟩
    refine ⟨A', N, _, endN N lane, rfl, ok, te1, os1, end_lt ok hl, hn, fun H2 te2 b2 => ?_⟩
    exact kout ke H2 te2 fun b o e n1 n2 n3 n4 => b2 b o (by rw [upd_ne n2]; exact e) n1 n2 n3 n4
  · have kl : k < N.forks.length := by lia
    rw [decide_eq_false (show ¬ V.int ((k : Nat) : Int) = V.int ((A'.ps.length : Nat) : Int) by intro z; injection z with z; rw [pl] at z; lia)]
    refine iteF ?_
    have ks : k < S.sets.length := by rw [os.sl]; exact kl
    have at1 := nums_at' S.sets k ks
    have t2 : S.sets.getD k 0 < 2 := by
      rw [List.getD_eq_getElem?_getD, List.getElem?_eq_getElem ks]
      exact os.sv _ (List.getElem_mem ks)
    refine ⟨_, rfl, A'.t, C, dx, _, _, rfl, ob, T.cl, T.nS, fl_set, _, rfl, A'.ls, _, _, _, rfl, rfl, SqL.of te.hs, atI_nat at1, ?_⟩
    refine ⟨_, rfl, _, _, rfl, rfl, _, rfl, A'.t, C, dx, _, _, rfl, ob, T.cl, T.nS, fl_set, _, rfl, A'.ls, _, _, k, rfl, rfl, te.hs, ix_at (by rw [nums_len]; exact ks), ?_⟩
    have e1 : (1 : Int) - ((S.sets.getD k 0 : Nat) : Int) = ((1 - S.sets.getD k 0 : Nat) : Int) := by lia
    dsimp only
    rw [e1, nums_set]
    have tns : A'.t ≠ A'.ls := ne_of ob te.hs (by intro z; cases z)
    have tp1 : Tups H (L2.upd H A'.ls (.lst (nums (S.sets.set k (1 - S.sets.getD k 0))))) := Tups.lst te.hs
    have na1 := te.na.tups tp1
    have ob1 : L2.upd H A'.ls (.lst (nums (S.sets.set k (1 - S.sets.getD k 0)))) A'.t = some (.ins C dx (flds5 A'.r A'.ls A'.lp A'.lc A'.ln)) := by rw [upd_ne tns]; exact ob
    have hp1 : L2.upd H A'.ls (.lst (nums (S.sets.set k (1 - S.sets.getD k 0)))) A'.lp = some (.lst sp) := by rw [upd_ne te.d1.symm]; exact hp
    obtain ⟨g, f, eg, ef, hg⟩ := na1.prs.get (i := k) (List.getElem?_eq_getElem (show k < A'.ps.length by lia))
    have hat : A'.ps[k]? = some (.ref g) := by rw [List.getElem?_eq_getElem (show k < A'.ps.length by lia), eg]
    have eon : onT N S ball k = if S.sets.getD k 0 = 0 then f.1 else f.2 := by
      unfold onT
      rw [List.getD_eq_getElem?_getD (l := N.forks), ef]; rfl
    have at2 := two_at f _ t2
    rw [← eon] at at2
    have on : onT N S ball k < N.lanes := (OkS.go (ball := ball) (k' := 0) ok os kl (Nat.zero_le _)).1
    refine ⟨_, rfl, A'.t, C, dx, _, _, rfl, ob1, T.cl, T.nN, fl_net, A'.r, _, 1, _, rfl, rfl, SqT.of na1.net, rfl, _, rfl, A'.fr, _, _, _, rfl, rfl, SqT.of na1.forks, atI_nat hat, _, rfl, g, _, _, _, rfl, rfl, SqT.of hg, atI_nat at2, ?_⟩
    refine ⟨_, rfl, _, rfl, A'.t, C, dx, _, _, rfl, ob1, T.cl, T.nN, fl_net, _, rfl, _, rfl, _, _, rfl, rfl, A'.r, A'.fr, A'.er, A'.ps, N, onT N S ball k, k + 1, rfl, ok, na1, kl, fun k' nk => ?_⟩
    refine ⟨(by show 2 ≤ sizeLine; decide), fun q2 hq2 => ?_⟩
    have s2 := same_new hq2 (.tup [.int (onT N S ball k : Nat), .int (k' : Nat)])
    refine ⟨_, rfl, A'.t, C, dx, _, _, rfl, s2 _ _ ob1, T.cl, T.nP, fl_spo, _, rfl, A'.lp, _, _, ball, rfl, rfl, s2 _ _ hp1, ix_at bs, ?_⟩
    have tp3 := Tups.lst (ys := sp.set ball (.ref q2)) (s2 _ _ hp1)
    refine kgo kl k' _ nk ⟨⟨dx, by rw [upd_ne tnp]; exact s2 _ _ ob1⟩, (na1.tups (Tups.of s2)).tups tp3, ?_, ⟨_, upd_same, ?_⟩, ?_, ?_, te.d1, te.d2, te.d3, te.d4, te.d5, te.d6⟩ fun b o e n1 n2 n3 n4 => ?_
    · rw [upd_ne te.d1]; exact s2 _ _ upd_same
    · exact (((sr.tups tp1).tups (Tups.of s2)).tups tp3).set (v := .ref q2) (o := some (onT N S ball k, k')) ⟨q2, rfl, tp3 _ _ (atNew hq2 _)⟩ ball
    · rw [upd_ne te.d4.symm]; refine s2 _ _ ?_; rw [upd_ne te.d2.symm]; exact te.hc
    · rw [upd_ne te.d5.symm]; refine s2 _ _ ?_; rw [upd_ne te.d3.symm]; exact te.hn
    · rw [upd_ne n2]; refine s2 _ _ ?_; rw [upd_ne n1]; exact e
end
end K26
end
section
set_option maxHeartbeats 4000001
namespace L2
open PySem
theorem if_or {t : TT} {A B : TS} {D : Ends} {σ : St} {H : Hp} (G : St → Hp → Prop) (hA : ∀ σ H, G σ H → A D σ H) (h : (∀ σ H, G σ H → A D σ H) → t σ H fun c H1 => if c = true then A D σ H1 else B D σ H1) : tIfS t A B D σ H := h hA
end L2
namespace Bn
open PySem L2 Own
theorem way_add (os : List (Option (Nat × Nat))) (o : Nat × Nat) : wayL (os ++ [some o]) = wayL os ++ [os.length] := by
  unfold wayL
  rw [List.length_append]
  show (List.range (os.length + 1)).filter _ = _
  rw [List.range_succ, List.filter_append]
  congr 1
  · refine List.filter_congr fun i hi => ?_
    have := List.mem_range.mp hi
    rw [List.getD_eq_getElem?_getD, List.getD_eq_getElem?_getD, List.getElem?_append_left this]
  · rw [List.filter_cons, List.getD_eq_getElem?_getD, List.getElem?_append_right (Nat.le_refl _)]
    simp
theorem get_set (os : List (Option (Nat × Nat))) (b : Nat) (o : Option (Nat × Nat)) (i : Nat) : (os.set b o).getD i none = if b = i ∧ b < os.length then o else os.getD i none := by
  rw [List.getD_eq_getElem?_getD, List.getD_eq_getElem?_getD, List.getElem?_set]
  by_cases e : b = i
  · subst e
    by_cases c : b < os.length
    · rw [if_pos rfl, if_pos c, if_pos ⟨rfl, c⟩]; rfl
    · rw [if_pos rfl, if_neg c, if_neg (fun z => c z.2), List.getElem?_eq_none (by lia)]
  · rw [if_neg e, if_neg (fun z => e z.1)]
theorem way_go {os : List (Option (Nat × Nat))} {b : Nat} {o o' : Nat × Nat} (h : os[b]? = some (some o)) : wayL (os.set b (some o')) = wayL os := by
  have gb : os.getD b none = some o := by rw [List.getD_eq_getElem?_getD, h]; rfl
  unfold wayL
  rw [List.length_set]
  refine List.filter_congr fun i _ => ?_
  rw [get_set]
  by_cases c : b = i ∧ b < os.length
  · rw [if_pos c, ← c.1, gb]; rfl
  · rw [if_neg c]
theorem nat_unique : ∀ {a b : List Nat}, a.Perm b → a.Pairwise (· ≤ ·) → b.Pairwise (· ≤ ·) → a = b
  | [], b, p, _, _ => by rw [List.nil_perm.mp p]
  | x :: a, [], p, _, _ => by simpa using p.length_eq
  | x :: a, y :: b, p, ha, hb => by
    have e : x = y := by
      rcases List.mem_cons.mp (p.mem_iff.mp List.mem_cons_self : x ∈ y :: b) with u1 | u1
      · exact u1
      rcases List.mem_cons.mp (p.mem_iff.mpr List.mem_cons_self : y ∈ x :: a) with u2 | u2
      · exact u2.symm
      · have := (List.pairwise_cons.mp ha).1 y u2
        have := (List.pairwise_cons.mp hb).1 x u1
        lia
    subst e
    rw [nat_unique (List.perm_cons x |>.mp p) (List.pairwise_cons.mp ha).2 (List.pairwise_cons.mp hb).2]
end Bn
end
section
set_option maxHeartbeats 4000001
namespace Bn
open PySem L2 Own
def part (m : Int) (lane k : Nat) : List Grp := if m = 0 then [] else [⟨m, lane, k⟩]
theorem next_ex (fs : List (Nat × Nat)) (lane : Nat) : ∀ n, n ≤ fs.length → ∃ k, IsNext fs lane n k := by
  have go : ∀ d n, n + d = fs.length → ∃ k, IsNext fs lane n k := by
    intro d
    induction d with
    | zero =>
      intro n h
      refine ⟨n, Nat.le_refl _, by lia, fun j g a b => by lia, fun g e => ?_⟩
      rw [List.getElem?_eq_none (by lia)] at e; cases e
    | succ d ih =>
      intro n h
      have nl : n < fs.length := by lia
      by_cases z : lane = fs[n].1 ∨ lane = fs[n].2
      · refine ⟨n, Nat.le_refl _, by lia, fun j g a b => by lia, fun g e => ?_⟩
        rw [List.getElem?_eq_getElem nl] at e
        rw [← Option.some.inj e]; exact z
      · obtain ⟨k, hk⟩ := ih (n + 1) (by lia)
        refine ⟨k, by have := hk.from_; lia, hk.upto, fun j g a b e => ?_, hk.here⟩
        by_cases y : j = n
        · subst y
          rw [List.getElem?_eq_getElem nl] at e
          rw [← Option.some.inj e]; exact z
        · exact hk.none j g (by lia) b e
  exact fun n h => go (fs.length - n) n (by lia)
end Bn
end
section
set_option maxHeartbeats 4000001
namespace L2
open PySem PySem.Spec PyProof.Rows
section
variable {κ : Type} [DecidableEq κ]
def valV (kvs : List (κ × V)) (k : κ) : Option V := (kvs.find? fun kv => decide (kv.1 = k)).map (·.2)
def putK (kvs : List (κ × V)) (k : κ) (v : V) : List (κ × V) :=
  if (kvs.any fun kv => decide (kv.1 = k)) = true then kvs.map (fun kv => if kv.1 = k then (kv.1, v) else kv) else kvs ++ [(k, v)]
def dropK (kvs : List (κ × V)) (k : κ) : List (κ × V) := kvs.filter fun kv => decide (kv.1 ≠ k)

theorem valV_pos {p : κ × V} {r : List (κ × V)} {k : κ} (e : p.1 = k) : valV (p :: r) k = some p.2 := by simp [valV, List.find?_cons, e]
theorem valV_neg {p : κ × V} {r : List (κ × V)} {k : κ} (e : ¬ p.1 = k) : valV (p :: r) k = valV r k := by simp [valV, List.find?_cons, e]
theorem valV_any (k : κ) : ∀ kvs : List (κ × V), (kvs.any fun kv => decide (kv.1 = k)) = (valV kvs k).isSome
  | [] => rfl
  | p :: r => by
    rw [List.any_cons]
    by_cases e : p.1 = k
    · simp only [valV_pos e, decide_eq_true e, Bool.true_or, Option.isSome_some]
    · rw [valV_neg e, decide_eq_false e, Bool.false_or]; exact valV_any k r
theorem valV_map (k j : κ) (y : V) : ∀ kvs : List (κ × V), valV (kvs.map fun kv => if kv.1 = k then (kv.1, y) else kv) j = (valV kvs j).map fun x => if j = k then y else x
  | [] => rfl
  | p :: r => by
    have ih := valV_map k j y r
    rw [List.map_cons]
    by_cases h : p.1 = k
    · rw [if_pos h]
      by_cases e : p.1 = j
      · rw [valV_pos (p := (p.1, y)) e, valV_pos e, Option.map_some, if_pos (e.symm.trans h)]
      · rw [valV_neg (p := (p.1, y)) e, valV_neg e, ih]
    · rw [if_neg h]
      by_cases e : p.1 = j
      · rw [valV_pos (p := p) e, valV_pos e, Option.map_some, if_neg (fun z => h (e.trans z))]
      · rw [valV_neg (p := p) e, valV_neg e, ih]
theorem valV_snoc (k j : κ) (y : V) : ∀ kvs : List (κ × V), valV kvs k = none → valV (kvs ++ [(k, y)]) j = if j = k then some y else valV kvs j
  | [], _ => by
    by_cases e : k = j
    · rw [if_pos e.symm]; exact valV_pos (p := (k, y)) e
    · rw [if_neg (fun z => e z.symm)]; exact valV_neg (p := (k, y)) e
  | p :: r, hn => by
    rw [List.cons_append]
    have hk : ¬ p.1 = k := fun z => by rw [valV_pos z] at hn; cases hn
    rw [valV_neg hk] at hn
    have ih := valV_snoc k j y r hn
    by_cases e : p.1 = j
    · rw [valV_pos e, valV_pos e, if_neg (fun z => hk (e.trans z))]
    · rw [valV_neg e, valV_neg e, ih]
theorem valV_put (kvs : List (κ × V)) (k j : κ) (y : V) : valV (putK kvs k y) j = if j = k then some y else valV kvs j := by
  unfold putK
  by_cases a : (kvs.any fun kv => decide (kv.1 = k)) = true
  · rw [if_pos a, valV_map]
    rw [valV_any] at a
    by_cases e : j = k
    · obtain ⟨x, hx⟩ := Option.isSome_iff_exists.mp a
      rw [if_pos e, e, hx, Option.map_some, if_pos rfl]
    · rw [if_neg e]
      cases valV kvs j with
      | none => rfl
      | some x => rw [Option.map_some, if_neg e]
  · rw [if_neg a]
    refine valV_snoc k j y kvs ?_
    rw [valV_any] at a
    cases q : valV kvs k with
    | none => rfl
    | some x => rw [q] at a; exact (a rfl).elim
theorem length_putK (kvs : List (κ × V)) (k : κ) (v : V) : (putK kvs k v).length ≤ kvs.length + 1 := by
  unfold putK
  split
  · rw [List.length_map]; lia
  · rw [List.length_append, List.length_cons, List.length_nil]; lia
theorem RelO.isSome_eq {o : Option V} {u : Option Value} (r : RelO o u) : o.isSome = u.isSome := by
  cases o with
  | none => cases u with
    | none => rfl
    | some _ => exact (show False from r).elim
  | some _ => cases u with
    | none => exact (show False from r).elim
    | some _ => rfl
theorem KV.val {kvs : List (κ × V)} {vs : List (κ × Value)} (r : KV kvs vs) (k : κ) : RelO (valV kvs k) (valueAt vs k) := by
  unfold KV at r
  induction r with
  | nil => exact True.intro
  | @cons p q ps qs h t ih =>
    obtain ⟨h1, h2⟩ := h
    by_cases e : p.1 = k
    · have e' : q.1 = k := h1.symm.trans e
      have b : valueAt (q :: qs) k = some q.2 := by simp [valueAt, List.find?_cons, e']
      rw [valV_pos e, b]; exact h2
    · have e' : ¬ q.1 = k := fun z => e (h1.trans z)
      have b : valueAt (q :: qs) k = valueAt qs k := by simp [valueAt, List.find?_cons, e']
      rw [valV_neg e, b]; exact ih
theorem KV.any {kvs : List (κ × V)} {vs : List (κ × Value)} (r : KV kvs vs) (k : κ) : (kvs.any fun kv => decide (kv.1 = k)) = vs.any fun kv => decide (kv.1 = k) := by
  unfold KV at r
  induction r with
  | nil => rfl
  | cons h t ih => rw [List.any_cons, List.any_cons, ih, h.1]
theorem KV.repl {kvs : List (κ × V)} {vs : List (κ × Value)} (r : KV kvs vs) (k : κ) {y : V} {u : Value} (ry : RelV y u) :
    KV (kvs.map fun kv => if kv.1 = k then (kv.1, y) else kv) (vs.map fun kv => if kv.1 = k then (kv.1, u) else kv) := by
  unfold KV at r ⊢
  induction r with
  | nil => exact .nil
  | @cons p q ps qs h t ih =>
    rw [List.map_cons, List.map_cons]
    refine .cons ?_ ih
    obtain ⟨h1, h2⟩ := h
    by_cases e : p.1 = k
    · rw [if_pos e, if_pos (h1.symm.trans e)]; exact ⟨h1, ry⟩
    · rw [if_neg e, if_neg (fun z => e (h1.trans z))]; exact ⟨h1, h2⟩
theorem KV.put {kvs : List (κ × V)} {vs : List (κ × Value)} (r : KV kvs vs) (k : κ) {y : V} {u : Value} (ry : RelV y u) : KV (putK kvs k y) (stored vs k u) := by
  unfold putK stored
  rw [r.any k]
  by_cases e : (vs.any fun kv => decide (kv.1 = k)) = true
  · rw [if_pos e, if_pos e]; exact r.repl k ry
  · rw [if_neg e, if_neg e]; exact Paired.snoc r ⟨rfl, ry⟩
theorem KV.drop {kvs : List (κ × V)} {vs : List (κ × Value)} (r : KV kvs vs) (k : κ) : KV (dropK kvs k) (without vs k) := by
  unfold KV at r ⊢
  unfold dropK without
  induction r with
  | nil => exact .nil
  | @cons p q ps qs h t ih =>
    obtain ⟨h1, h2⟩ := h
    rw [List.filter_cons, List.filter_cons]
    by_cases e : p.1 = k
    · have a : ¬ decide (p.1 ≠ k) = true := by simp [e]
      have b : ¬ decide (q.1 ≠ k) = true := by simp [h1.symm.trans e]
      rw [if_neg a, if_neg b]; exact ih
    · have e' : ¬ q.1 = k := fun z => e (h1.trans z)
      have a : decide (p.1 ≠ k) = true := by simp [e]
      have b : decide (q.1 ≠ k) = true := by simp [e']
      rw [if_pos a, if_pos b]; exact .cons ⟨h1, h2⟩ ih
theorem KV.keys {kvs : List (κ × V)} {vs : List (κ × Value)} (r : KV kvs vs) : kvs.map (·.1) = vs.map (·.1) := by
  unfold KV at r
  induction r with
  | nil => rfl
  | cons h t ih => rw [List.map_cons, List.map_cons, ih, h.1]
theorem KV.length {kvs : List (κ × V)} {vs : List (κ × Value)} (r : KV kvs vs) : kvs.length = vs.length := Paired.length r
theorem dropK_le (kvs : List (κ × V)) (k : κ) : (dropK kvs k).length ≤ kvs.length := List.length_filter_le _ _
end
theorem kV_is {P : Program} {w : World} {k : Key} {u : Value} (r : RelV (kV k) u) : (mixKind P w).is k u = true := by
  cases k with
  | inl i => obtain ⟨t, e⟩ := (show ∃ t, u = Value.int i t from r); subst e; exact mixKind_int P w i t
  | inr x => obtain ⟨t, e⟩ := (show ∃ t, u = Value.str x t from r); subst e; exact mixKind_str P w x t
theorem items_are {P : Program} {w : World} : ∀ {ks : List Key} {us : List Value}, Vals (ks.map kV) us → ItemsAre (mixKind P w) ks us
  | [], _, r => by rw [List.map_nil] at r; cases r; exact .nil
  | k :: ks, _, r => by
    rw [List.map_cons] at r
    cases r with
    | cons h t => exact .cons (kV_is h) (items_are t)
abbrev KT (H : Hp) : List (List Key × V) → List (List Key × Addr × Value) → Prop := Paired fun p q => p.1 = q.1 ∧ H q.2.1 = some (.tup (p.1.map kV)) ∧ RelV p.2 q.2.2
theorem KT.val {H : Hp} {kvs : List (List Key × V)} {xs : List (List Key × Addr × Value)} (r : KT H kvs xs) (k : List Key) : RelO (valV kvs k) ((atKey xs k).map (·.2)) := by
  induction r with
  | nil => exact True.intro
  | @cons p q ps qs h t ih =>
    obtain ⟨h1, _, h2⟩ := h
    by_cases e : p.1 = k
    · have e' : q.1 = k := h1.symm.trans e
      have b : atKey (q :: qs) k = some q.2 := by simp [atKey, List.find?_cons, e']
      rw [valV_pos e, b]; exact h2
    · have e' : ¬ q.1 = k := fun z => e (h1.trans z)
      have b : atKey (q :: qs) k = atKey qs k := by simp [atKey, List.find?_cons, e']
      rw [valV_neg e, b]; exact ih
theorem KT.repl {H : Hp} {kvs : List (List Key × V)} {xs : List (List Key × Addr × Value)} (r : KT H kvs xs) (k : List Key) {y : V} {u : Value} (ry : RelV y u) :
    KT H (kvs.map fun kv => if kv.1 = k then (kv.1, y) else kv) (xs.map (putAt k u)) := by
  induction r with
  | nil => exact .nil
  | @cons p q ps qs h t ih =>
    rw [List.map_cons, List.map_cons]
    refine .cons ?_ ih
    obtain ⟨h1, h2, h3⟩ := h
    unfold putAt
    by_cases e : p.1 = k
    · rw [if_pos e, if_pos (h1.symm.trans e)]; exact ⟨h1, h2, ry⟩
    · rw [if_neg e, if_neg (fun z => e (h1.trans z))]; exact ⟨h1, h2, h3⟩
theorem KT.put {H : Hp} {kvs : List (List Key × V)} {xs : List (List Key × Addr × Value)} (r : KT H kvs xs) (k : List Key) {b : Addr} {y : V} {u : Value} (hb : H b = some (.tup (k.map kV))) (ry : RelV y u) :
    KT H (putK kvs k y) (storedH xs k b u) := by
  have e : (kvs.any fun kv => decide (kv.1 = k)) = (atKey xs k).isSome := by
    rw [valV_any, (r.val k).isSome_eq, Option.isSome_map]
  unfold putK storedH
  rw [e]
  by_cases q : (atKey xs k).isSome = true
  · rw [if_pos q, if_pos q]; exact r.repl k ry
  · rw [if_neg q, if_neg q]; exact Paired.snoc r ⟨rfl, hb, ry⟩
theorem KT.keeps {H H' : Hp} {kvs : List (List Key × V)} {xs : List (List Key × Addr × Value)} (r : KT H kvs xs) (ht : ∀ b ys, H b = some (.tup ys) → H' b = some (.tup ys)) : KT H' kvs xs :=
  Paired.mapP r fun _ _ z => ⟨z.1, ht _ _ z.2.1, z.2.2⟩

section
variable {P : Program} {w : World} {H : Hp} {h : Heap} {a : Addr}
theorem rd_of {u : HO} (ok : HOk P w H h) (e : Rd H a u) : ObjOk P w H h a u := e.ok ok
theorem dk_rd {kvs : List (Key × V)} (ok : HOk P w H h) (e : Rd H a (.dK kvs)) : kvs.length ≤ sizeLine ∧ (a == sysModules) = false ∧ ∃ vs, KV kvs vs ∧ h.DictOf (mixKind P w) a vs :=
  show ObjOk P w H h a (.dK kvs) from rd_of ok e
theorem dk_of {kvs : List (Key × V)} (ok : HOk P w H h) (e : H a = some (.dK kvs)) : kvs.length ≤ sizeLine ∧ (a == sysModules) = false ∧ ∃ vs, KV kvs vs ∧ h.DictOf (mixKind P w) a vs := dk_rd ok (.inl e)
theorem key_of {ks : List Key} (ok : HOk P w H h) (e : H a = some (.tup (ks.map kV))) : (tupleKind (mixKind P w)).is h ks a := by
  obtain ⟨_, its, r, o, h1, h2, n, h3⟩ := (show ObjOk P w H h a (.tup (ks.map kV)) from ok a _ e)
  exact ⟨o, its.toArray, n, h1, h2, h3.1, by simpa using items_are r⟩
theorem dt_rd {kvs : List (List Key × V)} (ok : HOk P w H h) (e : Rd H a (.dT kvs)) : kvs.length ≤ sizeLine ∧ (a == sysModules) = false ∧
    ∃ xs, KT H kvs xs ∧ h.DictOfH (tupleKind (mixKind P w)) a xs := by
  obtain ⟨z, y, xs, r, o, es, ep, h1, h2, h3, h4, h5⟩ := (show ObjOk P w H h a (.dT kvs) from rd_of ok e)
  refine ⟨z, y, xs, r, o, es, ep, h1, h2, h3, h4, fun x hx => ?_, h5⟩
  have all : ∀ {l : List (List Key × V)} {m : List (List Key × Addr × Value)}, KT H l m → ∀ x ∈ m, (tupleKind (mixKind P w)).is h x.1 x.2.1 := by
    intro l m q
    induction q with
    | nil => intro x hx; exact nomatch hx
    | @cons p q ps qs hq t ih =>
      intro x hx
      rcases List.mem_cons.mp hx with e | hx
      · subst e
        exact key_of ok (by rw [← hq.1]; exact hq.2.1)
      · exact ih x hx
  exact all r x hx
theorem dt_of {kvs : List (List Key × V)} (ok : HOk P w H h) (e : H a = some (.dT kvs)) : kvs.length ≤ sizeLine ∧ (a == sysModules) = false ∧
    ∃ xs, KT H kvs xs ∧ h.DictOfH (tupleKind (mixKind P w)) a xs := dt_rd ok (.inl e)
end
def DGet (H : Hp) (a : Addr) (y : V) (r : Option V) : Prop :=
  (∃ kvs k, Rd H a (.dK kvs) ∧ y = kV k ∧ r = valV kvs k) ∨ ∃ kvs k b, Rd H a (.dT kvs) ∧ y = .ref b ∧ H b = some (.tup (k.map kV)) ∧ r = valV kvs k
def DPut (H : Hp) (a : Addr) (y v : V) (H' : Hp) : Prop :=
  (∃ kvs k, H a = some (.dK kvs) ∧ y = kV k ∧ kvs.length < sizeLine ∧ H' = upd H a (.dK (putK kvs k v))) ∨
  ∃ kvs k b, H a = some (.dT kvs) ∧ y = .ref b ∧ H b = some (.tup (k.map kV)) ∧ kvs.length < sizeLine ∧ H' = upd H a (.dT (putK kvs k v))
theorem DGet.k {H : Hp} {a : Addr} {kvs : List (Key × V)} {k : Key} (e : H a = some (.dK kvs)) : DGet H a (kV k) (valV kvs k) := .inl ⟨kvs, k, .inl e, rfl, rfl⟩
theorem DPut.k {H : Hp} {a : Addr} {kvs : List (Key × V)} {k : Key} {v : V} (e : H a = some (.dK kvs)) (hl : kvs.length < sizeLine) : DPut H a (kV k) v (upd H a (.dK (putK kvs k v))) := .inl ⟨kvs, k, e, rfl, hl, rfl⟩
section
variable {X : Cx} {pins : List (Addr × Obj)} {σ : St} {H : Hp} {s : Shared} {a : Addr} {y v : V} {u r : Value} {o : Option V} {A : Around} {E : Value → Shared → Prop}
theorem d_getItem {Q : Value → Shared → Prop} (hu : A.units + 1 < cLine) (I : Inv X pins σ H s) (g : DGet H a y (some v)) (ry : RelV y u) (h : ∀ w' s', Inv X pins σ H s' → RelV v w' → Q w' s') :
    wpAny (model X.prog X.w) A (getItem (.ref a) u) Q E s := by
  rcases g with ⟨kvs, k, e, ey, l⟩ | ⟨kvs, k, b, e, ey, eb, l⟩
  · subst ey
    obtain ⟨z, hd, vs, rel, dd⟩ := dk_rd I.hok e
    obtain ⟨w', hw, rw'⟩ := RelO.some_of (v := v) (o := valueAt vs k) (by rw [l]; exact rel.val k)
    exact wpAny_getItem_of (kV_is ry) dd.mapOf hw (h w' _ (I.tok _) rw')
  · subst ey
    cases (show u = Value.ref b from ry)
    obtain ⟨z, hd, xs, rel, dd⟩ := dt_rd I.hok e
    obtain ⟨w', hw, rw'⟩ := RelO.some_of (v := v) (o := (atKey xs k).map (·.2)) (by rw [l]; exact rel.val k)
    obtain ⟨p, hp, hp2⟩ := Option.map_eq_some_iff.mp hw
    refine wpAny_getItem_heap (tupleKind_room_in1 hu) (key_of I.hok eb) dd hp ?_
    rw [hp2]
    exact h w' _ (I.tok _) rw'
theorem d_write {h' : Heap} {t' : Nat} {ob : HO} (I : Inv X pins σ H s) (mu : Mut (H a)) (hs : Heap.SameBut a s.heap h') (he : ∃ q, h'.get? a = some q) (new : ObjOk X.prog X.w (upd H a ob) h' a ob) :
    Inv X pins σ (upd H a ob) { s with heap := h', toks := t' } :=
  I.write (x := a) (e := a) mu (.inl rfl) (fun b q hb z => (hs.2 b hb).trans z) he new
theorem dk_new {P : Program} {w : World} {H' : Hp} {h' : Heap} {kvs : List (Key × V)} {vs : List (Key × Value)} (z : kvs.length ≤ sizeLine) (hd : (a == sysModules) = false) (rel : KV kvs vs) (dd : h'.DictOf (mixKind P w) a vs) :
    ObjOk P w H' h' a (.dK kvs) := ⟨z, hd, vs, rel, dd⟩
theorem d_setItem {H' : Hp} {Q : Unit → Shared → Prop} (hu : A.units + 1 < cLine) (I : Inv X pins σ H s) (g : DPut H a y v H') (ry : RelV y u) (rv : RelV v r) (h : ∀ s', Inv X pins σ H' s' → Q () s') :
    wpAny (model X.prog X.w) A (setItem (.ref a) u r) Q E s := by
  rcases g with ⟨kvs, k, e, ey, l, eH⟩ | ⟨kvs, k, b, e, ey, eb, l, eH⟩
  · subst ey eH
    obtain ⟨z, hd, vs, rel, dd⟩ := dk_of I.hok e
    have hz : vs.length ≤ sizeLine := by rw [← rel.length]; exact z
    have hl : (putK kvs k v).length ≤ sizeLine := by have := length_putK kvs k v; lia
    refine wpAny_setItem_pairs (hsz := hz) (kV_is ry) dd fun h' dd' hs => h _ ?_
    have he : ∃ q, h'.get? a = some q := let ⟨q, _, _, hq, _⟩ := dd'; ⟨q, hq⟩
    exact d_write I (by rw [e]; exact True.intro) hs he (dk_new hl hd (rel.put k rv) dd')
  · subst ey eH
    cases (show u = Value.ref b from ry)
    obtain ⟨z, hd, xs, rel, dd⟩ := dt_of I.hok e
    have hz : xs.length ≤ sizeLine := by rw [← Paired.length rel]; exact z
    have hl : (putK kvs k v).length ≤ sizeLine := by have := length_putK kvs k v; lia
    refine wpAny_setItem_heap (hsz := hz) (tupleKind_room_in1 hu) (key_of I.hok eb) dd fun h' dd' hs => h _ ?_
    obtain ⟨q, es, ep, hq, h2, h3, h4, _, h5⟩ := dd'
    refine d_write I (by rw [e]; exact True.intro) hs ⟨q, hq⟩ ⟨hl, hd, _, (rel.put k eb rv).keeps fun c ys ec => ?_, q, es, ep, hq, h2, h3, h4, h5⟩
    rw [upd_ne (ne_of ec e (fun z => nomatch z))]
    exact ec
end

section
variable {X : Cx} {pins : List (Addr × Obj)} {σ : St} {H : Hp} {s : Shared} {a : Addr} {kvs : List (Key × V)} {k : Key} {u : Value} {A : Around} {E : Value → Shared → Prop}
theorem d_pop {v : V} {more : List Value} {Q : Value → Shared → Prop} (I : Inv X pins σ H s) (e : H a = some (.dK kvs)) (ry : RelV (kV k) u) (l : valV kvs k = some v) (hm : more = [] ∨ ∃ x, more = [x])
    (h : ∀ w' s', Inv X pins σ (upd H a (.dK (dropK kvs k))) s' → RelV v w' → Q w' s') : wpAny (model X.prog X.w) A (call (.builtin "dict.pop") (.ref a :: u :: more)) Q E s := by
  obtain ⟨z, hd, vs, rel, dd⟩ := dk_of I.hok e
  obtain ⟨w', hw, rw'⟩ := RelO.some_of (v := v) (o := valueAt vs k) (by rw [← l]; exact rel.val k)
  have hp : (keyPart u).isSome = true := by
    cases k with
    | inl i => obtain ⟨t, q⟩ := (show ∃ t, u = Value.int i t from ry); subst q; rfl
    | inr x => obtain ⟨t, q⟩ := (show ∃ t, u = Value.str x t from ry); subst q; rfl
  have ha : argsOk "dict.pop" ⟨.ref a :: u :: more, []⟩ := by
    rcases hm with q | ⟨x, q⟩
    · subst q; exact PySem.F.args_dict_pop_2 _ _
    · subst q; exact PySem.F.args_dict_pop_3 _ _ _
  refine call_meetsIn PySem.F.slot_dict_pop dd.typeIs PySem.F.entry_dict_pop ha (meets_dict_pop_there (mixKind X.prog X.w) a (kV_is ry) more hm hp)
    ⟨vs, w', dd, by rw [← rel.length]; exact z, hw, fun h' dd' hs => h w' _ ?_ rw'⟩
  have he : ∃ q, h'.get? a = some q := let ⟨q, _, _, hq, _⟩ := dd'; ⟨q, hq⟩
  exact d_write I (by rw [e]; exact True.intro) hs he (dk_new (Nat.le_trans (dropK_le kvs k) z) hd (rel.drop k) dd')
end
def NoSl (i : Expr) : Prop := ∀ ov iv, subscripted i false ov iv = operate [ov, iv] (getItem ov iv)
theorem subD_of {prog : Program} {w : World} {A : Around} {E : Value → Shared → Prop} {s : Shared} {env : Env} {value slice : Expr} {pos : Pos} {T id : String} {Q : Value → Shared → Prop}
    (hl : typeLookup (.type T) "__getitem__" = pure (some (.builtin id))) (hs : NoSl slice)
    (h : wpAny (model prog w) A (eval value env) (fun o s₁ => wpAny (model prog w) A (eval slice env) (fun i s₂ => s₂.TypeIs o T ∧ wpAny (model prog w) A (getItem o i) Q E s₂) E s₁) E s) :
    wpAny (model prog w) A (eval (.Subscript value slice pos) env) Q E s := by
  refine Subscript_ (wpAny_mono h (fun o s₁ h₁ => wpAny_mono h₁ (fun i s₂ h₂ => ?_) fun _ _ x => x) fun _ _ x => x)
  obtain ⟨hT, h₂⟩ := h₂
  unfold subscriptTail
  refine wpAny_bind ?_
  rw [getitemInPython_of_ne hT.not_modules]
  refine wpAny_bind (wpAny_specialOf hT hl ?_)
  have fin : wpAny (model prog w) A (subscripted slice false o i) (fun r s₃ => wpAny (model prog w) A (letTemporaryGo value o r >>= fun _ => pure r) Q E s₃) E s₂ := by
    rw [hs o i]
    exact wpAny_operating (wpAny_mono h₂ (fun r s₃ h₃ => wpAny_bind (wpAny_letTemporaryGo (wpAny_pure h₃))) fun _ _ x => x)
  first
    | exact wpAny_pure (wpAny_bind fin)
    | exact wpAny_bind (wpAny_pure (wpAny_bind fin))
    | exact wpAny_bind fin

theorem dict_typeIs {X : Cx} {pins : List (Addr × Obj)} {σ : St} {H : Hp} {s : Shared} {a : Addr} {y : V} {o : Option V} (I : Inv X pins σ H s) (g : DGet H a y o) : s.TypeIs (.ref a) "dict" := by
  rcases g with ⟨kvs, k, e, _, _⟩ | ⟨kvs, k, b, e, _, _, _⟩
  · obtain ⟨_, _, vs, _, dd⟩ := dk_rd I.hok e
    exact dd.typeIs
  · obtain ⟨_, _, xs, _, dd⟩ := dt_rd I.hok e
    exact dd.typeIs
def tDGet (td ty : TE) : TE := fun σ H Q => td σ H fun x H1 => ty σ H1 fun y H2 => ∃ a v, x = .ref a ∧ DGet H2 a y (some v) ∧ Q v H2
def sDPut (td ty tv : TE) : TS := fun D σ H => tv σ H fun v H1 => td σ H1 fun x H2 => ty σ H2 fun y H3 => ∃ a H4, x = .ref a ∧ DPut H3 a y v H4 ∧ D.nx σ H4
section
variable {X : Cx} {o i e value : Expr} {pos pos' tpos : Pos} {td ty tv : TE}
theorem pe_dget (hu : X.A.units + 1 < cLine) (ho : PE X o td) (hi : PE X i ty) (hs : NoSl i) : PE X (.Subscript o i pos) (tDGet td ty) := by
  intro pins s σ H Q I h
  refine subD_of PySem.F.slot_dict_getitem.lookup hs (thn (ho pins s σ H _ I h) fun u s1 ⟨x, H1, I1, rx, q1⟩ => thn (hi pins s1 σ H1 _ I1 q1) fun iv s2 ⟨y, H2, I2, ry, a, v, ex, g, q2⟩ => ?_)
  subst ex
  obtain rfl : u = Value.ref a := rx
  exact ⟨dict_typeIs I2 g, d_getItem hu I2 g ry fun w' s3 I3 rw' => ⟨v, H2, I3, rw', q2⟩⟩
theorem ps_dput (hu : X.A.units + 1 < cLine) (ho : PE X o td) (hi : PE X i ty) (hv : PE X value tv) (hs : swapsWith value (some (.Subscript o i pos')) pos.line X.env = pure false) :
    PS X (.Assign [.Subscript o i pos'] value pos) (sDPut td ty tv) := by
  intro pins s σ H D I h
  refine wpAny_Assign_Subscript (thn (hv pins s σ H _ I h) fun r s1 ⟨v, H1, I1, rv, q1⟩ => thn (ho pins s1 σ H1 _ I1 q1) fun u s2 ⟨x, H2, I2, rx, q2⟩ => thn (hi pins s2 σ H2 _ I2 q2) fun iv s3 ⟨y, H3, I3, ry, a, H4, ex, g, q3⟩ => ?_) hs
  subst ex
  obtain rfl : u = Value.ref a := rx
  exact d_setItem hu I3 g ry rv fun s4 I4 => ⟨σ, H4, I4, q3⟩
end
section
variable {X : Cx} {pos : Pos}
end
def tPairs : List (TE × TE) → St → Hp → (List (V × V) → Hp → Prop) → Prop
  | [], _, H, Q => Q [] H
  | (tk, tv) :: r, σ, H, Q => tk σ H fun x H1 => tv σ H1 fun y H2 => tPairs r σ H2 fun ps H3 => Q ((x, y) :: ps) H3
abbrev VV : List (V × V) → List (Value × Value) → Prop := Paired fun p q => RelV p.1 q.1 ∧ RelV p.2 q.2
def PPs (X : Cx) (pos : Pos) (keys : List (Option Expr)) (values : List Expr) (trs : List (TE × TE)) : Prop :=
  ∀ (pins : List (Addr × Obj)) (s : Shared) (σ : St) (H : Hp) (Q : List (V × V) → Hp → Prop), Inv X pins σ H s → tPairs trs σ H Q →
    wpAny (model X.prog X.w) X.A (evalPairs (pairTrees keys values X.env pos)) (fun vs s' => ∃ ps H', Inv X pins σ H' s' ∧ VV ps vs ∧ Q ps H') X.xe s
theorem pps_nil {X : Cx} {pos : Pos} : PPs X pos [] [] [] := fun pins s σ H Q I h => pairTrees_nil_walk ⟨[], H, I, .nil, h⟩
theorem pps_cons {X : Cx} {pos : Pos} {k v : Expr} {ks : List (Option Expr)} {vs : List Expr} {tk tv : TE} {trs : List (TE × TE)} (hk : PE X k tk) (hv : PE X v tv) (hr : PPs X pos ks vs trs) :
    PPs X pos (some k :: ks) (v :: vs) ((tk, tv) :: trs) := fun pins s σ H Q I h =>
  pairTrees_cons_walk (thn (hk pins s σ H _ I h) fun u s1 ⟨x, H1, I1, rx, q1⟩ => thn (hv pins s1 σ H1 _ I1 q1) fun w2 s2 ⟨y, H2, I2, ry, q2⟩ =>
    thn (hr pins s2 σ H2 _ I2 q2) fun ws s3 ⟨ps, H3, I3, rel, q3⟩ => ⟨(x, y) :: ps, H3, I3, .cons ⟨rx, ry⟩ rel, q3⟩)

def mergeK (kvs more : List (Key × V)) : List (Key × V) := more.foldl (fun acc kv => putK acc kv.1 kv.2) kvs
theorem KV.merge : ∀ {more : List (Key × V)} {rs : List (Key × Value)} {kvs : List (Key × V)} {vs : List (Key × Value)}, KV more rs → KV kvs vs → KV (mergeK kvs more) (merged vs rs) := by
  intro more rs kvs vs r
  unfold KV at r
  induction r generalizing kvs vs with
  | nil => intro q; exact q
  | @cons p q ps qs h t ih =>
    intro r0
    have e : KV (putK kvs p.1 p.2) (stored vs q.1 q.2) := by
      have := r0.put p.1 h.2
      rw [← h.1]; exact this
    exact ih e
theorem length_mergeK : ∀ (more kvs : List (Key × V)), (mergeK kvs more).length ≤ kvs.length + more.length
  | [], kvs => by show kvs.length ≤ kvs.length + 0; lia
  | p :: r, kvs => by
    have h1 := length_mergeK r (putK kvs p.1 p.2)
    have h2 := length_putK kvs p.1 p.2
    show (mergeK (putK kvs p.1 p.2) r).length ≤ _
    rw [List.length_cons]; lia
theorem carries_of {P : Program} {w : World} : ∀ {kvs : List (Key × V)} {ws : List (Value × Value)}, VV (kvs.map fun kv => (kV kv.1, kv.2)) ws → ∃ rs, Carries (mixKind P w) ws rs ∧ KV kvs rs
  | [], _, r => by rw [List.map_nil] at r; cases r; exact ⟨[], True.intro, .nil⟩
  | p :: kvs, _, r => by
    rw [List.map_cons] at r
    cases r with
    | @cons a b as bs h t =>
      obtain ⟨rs, c, q⟩ := carries_of (P := P) (w := w) t
      obtain ⟨b1, b2⟩ := b
      exact ⟨(p.1, b2) :: rs, ⟨kV_is h.1, rfl, c⟩, .cons ⟨rfl, h.2⟩ q⟩
def tDisp (trs : List (TE × TE)) : TE := fun σ H Q => ∀ p, H p = none → tPairs trs σ (upd H p (.dK [])) fun ps H2 => H2 p = some (.dK []) ∧ ∃ kvs : List (Key × V), ps = kvs.map (fun kv => (kV kv.1, kv.2)) ∧ kvs.length ≤ 15 ∧ Q (.ref p) (upd H2 p (.dK (mergeK [] kvs)))
theorem pe_disp {X : Cx} {pos : Pos} {keys : List (Option Expr)} {values : List Expr} {trs : List (TE × TE)} (h : PPs X pos keys values trs) (hall : keys.all (·.isSome) = true) (hl : keys.length = values.length) (h0 : keys ≠ [])
    (h15 : keys.length ≤ 15) : PE X (.Dict keys values pos) (tDisp trs) := by
  intro pins s σ H Q I q
  have hn := I.hok.fresh (Nat.le_refl s.heap.objs.size)
  have I1 := I.laid (a := s.heap.objs.size) (o := .dK []) (h' := s.heap.push { cls := .type "dict", data := .dict #[] }) (t' := s.toks) (fun _ _ q => Heap.get?_push_of_some _ q) (Nat.le_refl _) (dk_empty s.heap I.big)
  refine wpAny_Dict_walk (knd := mixKind X.prog X.w) hall hl h0 h15 (thn (h pins _ σ _ _ I1 (q _ hn)) fun ws s2 ⟨ps, H2, I2, rel, e, kvs, ep, lk, q2⟩ => ?_)
  subst ep
  obtain ⟨rs, c, rk⟩ := carries_of (P := X.prog) (w := X.w) rel
  obtain ⟨z, hd, vs0, r0, dd⟩ := dk_of I2.hok e
  cases r0
  refine ⟨rs, c, dd, fun h' dd' hs => ⟨.ref s.heap.objs.size, _, ?_, rfl, q2⟩⟩
  have hz : (mergeK [] kvs).length ≤ sizeLine := by
    have h1 := length_mergeK kvs []
    rw [List.length_nil] at h1
    rw [sizeLine_eq]; lia
  have he : ∃ q, h'.get? s.heap.objs.size = some q := let ⟨q, _, _, hq, _⟩ := dd'; ⟨q, hq⟩
  exact d_write I2 (by rw [e]; exact True.intro) hs he (dk_new hz hd (rk.merge .nil) dd')
structure M1 (X : Cx) (o : Expr) (m : Str) (apos : Pos) (e : Expr) (cpos : Pos) : Prop where
  base : attributeBase o m X.env (eval o X.env) = eval o X.env
  few : ((backTo cpos (starEach [e] X.env)).all (fun x => !x.1) && (backToKw cpos (keywordEach [] X.env)).all (fun x => x.1.isSome)
    && decide (([e] : List Expr).length + ([] : List Keyword).length + (if ([] : List Keyword).isEmpty then 0 else 1) < 30)) = true
  line : (apos.endLine == cpos.line) = true
  trees : backTo cpos (starEach [e] X.env) = [(false, eval e X.env)]
structure M2 (X : Cx) (o : Expr) (m : Str) (apos : Pos) (e f : Expr) (cpos : Pos) : Prop where
  base : attributeBase o m X.env (eval o X.env) = eval o X.env
  few : ((backTo cpos (starEach [e, f] X.env)).all (fun x => !x.1) && (backToKw cpos (keywordEach [] X.env)).all (fun x => x.1.isSome)
    && decide (([e, f] : List Expr).length + ([] : List Keyword).length + (if ([] : List Keyword).isEmpty then 0 else 1) < 30)) = true
  line : (apos.endLine == cpos.line) = true
  trees : backTo cpos (starEach [e, f] X.env) = [(false, eval e X.env), (false, eval f X.env)]
def IsD (H : Hp) (a : Addr) : Prop := (∃ kvs, Rd H a (.dK kvs)) ∨ ∃ kvs, Rd H a (.dT kvs)
theorem isD_at {X : Cx} {pins : List (Addr × Obj)} {σ : St} {H : Hp} {s : Shared} {a : Addr} (I : Inv X pins σ H s) (d : IsD H a) :
    s.TypeIs (.ref a) "dict" ∧ (∀ b, Value.ref a = .ref b → ∃ ob, s.heap.get? b = some ob ∧ ob.dict = none) ∧ (a == sysModules) = false := by
  rcases d with ⟨kvs, e⟩ | ⟨kvs, e⟩
  · obtain ⟨_, hd, vs, _, dd⟩ := dk_rd I.hok e
    refine ⟨dd.typeIs, fun b q => ?_, hd⟩
    cases q
    obtain ⟨ob, _, _, h1, h2, _⟩ := dd
    exact ⟨ob, h1, h2.2.1⟩
  · obtain ⟨_, hd, xs, _, dd⟩ := dt_rd I.hok e
    refine ⟨dd.typeIs, fun b q => ?_, hd⟩
    cases q
    obtain ⟨ob, _, _, h1, h2, _⟩ := dd
    exact ⟨ob, h1, h2.2.1⟩

section
variable {X : Cx} {pins : List (Addr × Obj)} {σ : St} {H : Hp} {s : Shared} {a : Addr} {y d : V} {u r : Value} {o : Option V} {A : Around} {E : Value → Shared → Prop}
end
def tDPop1 (td ty : TE) : TE := fun σ H Q => td σ H fun x H1 => ∃ a, x = .ref a ∧ IsD H1 a ∧ ty σ H1 fun y H2 => ∃ kvs k v, H2 a = some (.dK kvs) ∧ y = kV k ∧ valV kvs k = some v ∧ Q v (upd H2 a (.dK (dropK kvs k)))
section
variable {X : Cx} {o e f : Expr} {apos cpos : Pos} {td ty tx : TE}
theorem pe_dpop1 (ho : PE X o td) (he : PE X e ty) (m : M1 X o "pop" apos e cpos) : PE X (.Call (.Attribute o "pop" apos) [e] [] cpos) (tDPop1 td ty) := by
  intro pins s σ H Q I h
  refine wpAny_Call_method m.base m.few m.line PySem.F.plainAttrs_dict PySem.F.slot_dict_pop PySem.F.type_dict_pop (thn (ho pins s σ H _ I h) fun u s1 ⟨x, H1, I1, rx, a, ex, d, q1⟩ => ?_)
  subst ex
  obtain rfl : u = Value.ref a := rx
  obtain ⟨t1, t2, _⟩ := isD_at I1 d
  refine ⟨t1, t2, ?_⟩
  rw [m.trees]
  refine Calls.callWith_builtin rfl (Calls.evalArgs_plain (Calls.spliced_cons (thn (he pins s1 σ H1 _ I1 q1) fun iv s2 ⟨y, H2, I2, ry, kvs, k, v, ea, ey, l, q2⟩ => Calls.spliced_nil ?_)))
  subst ey
  exact d_pop I2 ea ry l (.inl rfl) fun w' s3 I3 rw' => ⟨v, _, I3, rw', q2⟩
end
section
variable {X : Cx} {pins : List (Addr × Obj)} {σ : St} {H : Hp} {s : Shared} {a : Addr} {kvs : List (Key × V)} {A : Around} {E : Value → Shared → Prop}
end


section
variable {X : Cx} {pins : List (Addr × Obj)} {σ : St} {H : Hp} {s : Shared} {a : Addr} {y : V} {u : Value} {A : Around} {E : Value → Shared → Prop}
end
end L2
end
section
set_option maxHeartbeats 4000001
namespace Bn
open PySem L2 Own
structure KAd where
  d : Addr
  db : Addr
  lo : Addr
  lg : Addr
  lt : Addr
def kpt (A : KAd) (n : Int) : List (Key × V) := [(.inr "balls", .ref A.db), (.inr "out", .ref A.lo), (.inr "given", .ref A.lg), (.inr "turns", .ref A.lt), (.inr "many", .int n)]
theorem kpt_ne : ¬ ((Sum.inr "balls" : Key) = .inr "out") ∧ ¬ ((Sum.inr "balls" : Key) = .inr "given") ∧ ¬ ((Sum.inr "balls" : Key) = .inr "turns") ∧ ¬ ((Sum.inr "balls" : Key) = .inr "many") ∧ ¬ ((Sum.inr "out" : Key) = .inr "given") ∧ ¬ ((Sum.inr "out" : Key) = .inr "turns") ∧ ¬ ((Sum.inr "out" : Key) = .inr "many") ∧ ¬ ((Sum.inr "given" : Key) = .inr "turns") ∧ ¬ ((Sum.inr "given" : Key) = .inr "many") ∧ ¬ ((Sum.inr "turns" : Key) = .inr "many") := by decide +kernel
section
variable {A : KAd} {n : Int}
theorem kpt_b : valV (kpt A n) (.inr "balls") = some (.ref A.db) := valV_pos rfl
theorem kpt_o : valV (kpt A n) (.inr "out") = some (.ref A.lo) := (valV_neg kpt_ne.1).trans (valV_pos rfl)
theorem kpt_g : valV (kpt A n) (.inr "given") = some (.ref A.lg) := (valV_neg kpt_ne.2.1).trans ((valV_neg kpt_ne.2.2.2.2.1).trans (valV_pos rfl))
theorem kpt_t : valV (kpt A n) (.inr "turns") = some (.ref A.lt) := (valV_neg kpt_ne.2.2.1).trans ((valV_neg kpt_ne.2.2.2.2.2.1).trans ((valV_neg kpt_ne.2.2.2.2.2.2.2.1).trans (valV_pos rfl)))
theorem kpt_m : valV (kpt A n) (.inr "many") = some (.int n) := (valV_neg kpt_ne.2.2.2.1).trans ((valV_neg kpt_ne.2.2.2.2.2.2.1).trans ((valV_neg kpt_ne.2.2.2.2.2.2.2.2.1).trans ((valV_neg kpt_ne.2.2.2.2.2.2.2.2.2).trans (valV_pos rfl))))
theorem kpt_put (m : Int) : putK (kpt A n) (.inr "many") (.int m) = kpt A m := by
  obtain ⟨n1, n2, n3, n4, n5, n6, n7, n8, n9, n10⟩ := kpt_ne
  unfold putK kpt
  rw [if_pos (by simp)]
  simp only [List.map_cons, List.map_nil, if_neg n4, if_neg n7, if_neg n9, if_neg n10, if_pos]
end
structure KB (H : Hp) (N : Nt) (kvs : List (Key × V)) (os : List (Option (Nat × Nat))) : Prop where
  ks : kvs.map (·.1) = (wayL os).map fun (b : Nat) => (Sum.inl (b : Int) : Key)
  at_ : ∀ (b lane k : Nat), os[b]? = some (some (lane, k)) → ∃ (t : Addr) (last : Int), valV kvs (.inl (b : Int)) = some (.ref t) ∧ H t = some (.tup [.int (lane : Nat), .int last]) ∧ -1 ≤ last ∧ IsNext N.forks lane (last + 1).toNat k
theorem KB.tups {H H' : Hp} {N : Nt} {kvs : List (Key × V)} {os : List (Option (Nat × Nat))} (h : KB H N kvs os) (s : Tups H H') : KB H' N kvs os := ⟨h.ks, fun b lane k e => by
  obtain ⟨t, last, a, b', c, d⟩ := h.at_ b lane k e
  exact ⟨t, last, a, s _ _ b', c, d⟩⟩
theorem way_mem {os : List (Option (Nat × Nat))} {b : Nat} : b ∈ wayL os ↔ ∃ o, os[b]? = some (some o) := by
  unfold wayL
  rw [List.mem_filter, List.mem_range]
  constructor
  · rintro ⟨l, h⟩
    rw [List.getD_eq_getElem?_getD, List.getElem?_eq_getElem l] at h
    cases e : os[b] with
    | none => rw [e] at h; cases h
    | some o => exact ⟨o, by rw [List.getElem?_eq_getElem l, e]⟩
  · rintro ⟨o, h⟩
    obtain ⟨l, e⟩ := List.getElem?_eq_some_iff.mp h
    refine ⟨l, ?_⟩
    rw [List.getD_eq_getElem?_getD, h]; rfl
theorem val_none {kvs : List (Key × V)} {k : Key} (h : k ∉ kvs.map (·.1)) : valV kvs k = none := by
  cases e : valV kvs k with
  | none => rfl
  | some v =>
    have := valV_any k kvs
    rw [e] at this
    obtain ⟨p, hp, q⟩ := List.any_eq_true.mp this
    exact absurd (List.mem_map.mpr ⟨p, hp, of_decide_eq_true q⟩) h
theorem KB.start {H : Hp} {N : Nt} {kvs : List (Key × V)} {os : List (Option (Nat × Nat))} (h : KB H N kvs os) {t : Addr} {lane k : Nat} (ht : H t = some (.tup [.int (lane : Nat), .int (-1)])) (hk : IsNext N.forks lane 0 k) : KB H N (putK kvs (.inl (os.length : Nat)) (.ref t)) (os ++ [some (lane, k)]) := by
  have nm : (Sum.inl ((os.length : Nat) : Int) : Key) ∉ kvs.map (·.1) := by
    rw [h.ks]
    intro z
    obtain ⟨b, hb, e⟩ := List.mem_map.mp z
    obtain ⟨o, ho⟩ := way_mem.mp hb
    have bl := (List.getElem?_eq_some_iff.mp ho).1
    have : (b : Int) = (os.length : Nat) := Sum.inl.inj e
    lia
  refine ⟨?_, fun b lane' k' e => ?_⟩
  · have na : ¬ (kvs.any fun kv => decide (kv.1 = (Sum.inl ((os.length : Nat) : Int) : Key))) = true := by
      rw [valV_any, val_none nm]; decide
    unfold putK
    rw [if_neg na, List.map_append, h.ks, way_add, List.map_append]; rfl
  · rw [valV_put]
    by_cases bl : b < os.length
    · rw [List.getElem?_append_left bl] at e
      rw [if_neg (fun z => by have := Sum.inl.inj z; lia)]
      exact h.at_ b lane' k' e
    · rw [List.getElem?_append_right (by lia)] at e
      have b0 : b - os.length = 0 := by
        have := (List.getElem?_eq_some_iff.mp e).1
        simp at this; lia
      rw [b0] at e
      obtain ⟨rfl, rfl⟩ := Prod.mk.inj (Option.some.inj (Option.some.inj e))
      have eb : b = os.length := by lia
      subst eb
      rw [if_pos rfl]
      exact ⟨t, -1, rfl, ht, by decide, hk⟩
theorem KB.go {H : Hp} {N : Nt} {kvs : List (Key × V)} {os : List (Option (Nat × Nat))} (h : KB H N kvs os) {t : Addr} {b lane k lane' k' : Nat} (e : os[b]? = some (some (lane, k))) (ht : H t = some (.tup [.int (lane' : Nat), .int (k : Nat)])) (hk : IsNext N.forks lane' (k + 1) k') : KB H N (putK kvs (.inl (b : Nat)) (.ref t)) (os.set b (some (lane', k'))) := by
  have bl := (List.getElem?_eq_some_iff.mp e).1
  obtain ⟨t0, l0, v0, _⟩ := h.at_ b lane k e
  refine ⟨?_, fun c lane2 k2 e2 => ?_⟩
  · have ya : (kvs.any fun kv => decide (kv.1 = (Sum.inl ((b : Nat) : Int) : Key))) = true := by rw [valV_any, v0]; rfl
    unfold putK
    rw [if_pos ya, way_go e, ← h.ks, List.map_map]
    refine List.map_congr_left fun p _ => ?_
    show (if p.1 = _ then (p.1, _) else p).1 = p.1
    split <;> rfl
  · rw [valV_put]
    by_cases cb : c = b
    · subst cb
      rw [List.getElem?_set_self bl] at e2
      obtain ⟨rfl, rfl⟩ := Prod.mk.inj (Option.some.inj (Option.some.inj e2))
      rw [if_pos rfl]
      refine ⟨t, (k : Nat), rfl, ht, by lia, ?_⟩
      rw [show ((k : Nat) : Int) + 1 = ((k + 1 : Nat) : Int) by lia, Int.toNat_natCast]
      exact hk
    · rw [List.getElem?_set_ne (fun z => cb z.symm)] at e2
      rw [if_neg (fun z => by have := Sum.inl.inj z; lia)]
      exact h.at_ c lane2 k2 e2
theorem valV_drop (k j : Key) : ∀ kvs : List (Key × V), valV (dropK kvs k) j = if j = k then none else valV kvs j
  | [] => by split <;> rfl
  | p :: r => by
    have ih := valV_drop k j r
    unfold dropK at ih ⊢
    by_cases e : p.1 = k
    · rw [List.filter_cons_of_neg (by simp [e]), ih]
      by_cases z : j = k
      · rw [if_pos z, if_pos z]
      · rw [if_neg z, if_neg z, valV_neg (fun q => z (q.symm.trans e))]
    · rw [List.filter_cons_of_pos (by simp [e])]
      by_cases q : p.1 = j
      · rw [valV_pos q, valV_pos q, if_neg (fun z => e (q.trans z))]
      · rw [valV_neg q, valV_neg q, ih]
theorem way_none {os : List (Option (Nat × Nat))} {b : Nat} : wayL (os.set b none) = (wayL os).filter fun c => decide (c ≠ b) := by
  unfold wayL
  rw [List.length_set, List.filter_filter]
  refine List.filter_congr fun c hc => ?_
  rw [List.getD_eq_getElem?_getD, List.getD_eq_getElem?_getD, List.getElem?_set]
  by_cases e : b = c
  · subst e
    simp
    split <;> rfl
  · have e2 : ¬ c = b := fun z => e z.symm
    simp [e, e2]
theorem KB.out {H : Hp} {N : Nt} {kvs : List (Key × V)} {os : List (Option (Nat × Nat))} (h : KB H N kvs os) (b : Nat) : KB H N (dropK kvs (.inl (b : Nat))) (os.set b none) := by
  refine ⟨?_, fun c lane k e => ?_⟩
  · rw [way_none]
    have hk := h.ks
    unfold dropK
    have : ∀ (l : List (Key × V)) (ws : List Nat), l.map (·.1) = ws.map (fun (b : Nat) => (Sum.inl (b : Int) : Key)) → (l.filter fun kv => decide (kv.1 ≠ (Sum.inl ((b : Nat) : Int) : Key))).map (·.1) = (ws.filter fun c => decide (c ≠ b)).map (fun (b : Nat) => (Sum.inl (b : Int) : Key)) := by
      intro l
      induction l with
      | nil =>
        intro ws e
        cases ws with
        | nil => rfl
        | cons w r => cases e
      | cons p r ih =>
        intro ws e
        cases ws with
        | nil => cases e
        | cons w s =>
          rw [List.map_cons, List.map_cons] at e
          obtain ⟨e1, e2⟩ := List.cons.inj e
          have i := ih s e2
          by_cases z : w = b
          · rw [List.filter_cons_of_neg (by simp [e1, z]), List.filter_cons_of_neg (by simp [z])]; exact i
          · have z' : ¬ (w : Int) = (b : Int) := by lia
            rw [List.filter_cons_of_pos (by simp [e1, z']), List.filter_cons_of_pos (by simp [z]), List.map_cons, List.map_cons, i, e1]
    exact this _ _ hk
  · have cb : c ≠ b := fun z => by
      subst z
      rw [List.getElem?_set] at e
      split at e
      · split at e <;> cases e
      · rename_i q; exact q rfl
    rw [List.getElem?_set_ne (fun z => cb z.symm)] at e
    rw [valV_drop, if_neg (fun z => by have := Sum.inl.inj z; lia)]
    exact h.at_ c lane k e
end Bn
namespace Bn
open PySem L2 Own
theorem put_new {kvs : List (Key × V)} {k : Key} {v : V} (h : ∀ p ∈ kvs, ¬ p.1 = k) : putK kvs k v = kvs ++ [(k, v)] := by
  unfold putK
  rw [if_neg]
  intro z
  obtain ⟨p, hp, q⟩ := List.any_eq_true.mp z
  exact h p hp (of_decide_eq_true q)
theorem kpt_merge (A : KAd) (n : Int) : mergeK [] (kpt A n) = kpt A n := by
  obtain ⟨n1, n2, n3, n4, n5, n6, n7, n8, n9, n10⟩ := kpt_ne
  show putK (putK (putK (putK (putK [] (Sum.inr "balls" : Key) (.ref A.db)) (Sum.inr "out" : Key) (.ref A.lo)) (Sum.inr "given" : Key) (.ref A.lg)) (Sum.inr "turns" : Key) (.ref A.lt)) (Sum.inr "many" : Key) (.int n) = _
  have e1 : putK [] (Sum.inr "balls" : Key) (.ref A.db) = [(.inr "balls", .ref A.db)] := put_new (fun p hp => by cases hp)
  have e2 : putK [(.inr "balls", .ref A.db)] (Sum.inr "out" : Key) (.ref A.lo) = [(.inr "balls", .ref A.db), (.inr "out", .ref A.lo)] := put_new (fun p hp => by rw [List.mem_singleton.mp hp]; exact n1)
  have e3 : putK [(.inr "balls", .ref A.db), (.inr "out", .ref A.lo)] (Sum.inr "given" : Key) (.ref A.lg) = [(.inr "balls", .ref A.db), (.inr "out", .ref A.lo), (.inr "given", .ref A.lg)] := put_new (fun p hp => by
    simp only [List.mem_cons, List.mem_nil_iff, or_false] at hp
    rcases hp with rfl | rfl
    · exact n2
    · exact n5)
  have e4 : putK [(.inr "balls", .ref A.db), (.inr "out", .ref A.lo), (.inr "given", .ref A.lg)] (Sum.inr "turns" : Key) (.ref A.lt) = [(.inr "balls", .ref A.db), (.inr "out", .ref A.lo), (.inr "given", .ref A.lg), (.inr "turns", .ref A.lt)] := put_new (fun p hp => by
    simp only [List.mem_cons, List.mem_nil_iff, or_false] at hp
    rcases hp with rfl | rfl | rfl
    · exact n3
    · exact n6
    · exact n8)
  rw [e1, e2, e3, e4]
  exact put_new (fun p hp => by
    simp only [List.mem_cons, List.mem_nil_iff, or_false] at hp
    rcases hp with rfl | rfl | rfl | rfl
    · exact n4
    · exact n7
    · exact n9
    · exact n10)
end Bn
namespace Bn
open PySem L2 Own
def onB (lane : Nat) (f : Nat × Nat) : Bool := decide (lane = f.1) || decide (lane = f.2)
def lfL (fs : List (Nat × Nat)) (lane : Nat) (last : Int) (j : Nat) : List Nat := (List.range j).filter fun i => decide (last < (i : Int)) && onB lane (fs.getD i (0, 0))
theorem lf_succ (fs : List (Nat × Nat)) (lane : Nat) (last : Int) (j : Nat) : lfL fs lane last (j + 1) = lfL fs lane last j ++ (if (decide (last < (j : Int)) && onB lane (fs.getD j (0, 0))) = true then [j] else []) := by
  unfold lfL
  rw [List.range_succ, List.filter_append]
  congr 1
  rw [List.filter_cons, List.filter_nil]
theorem lf_len (fs : List (Nat × Nat)) (lane : Nat) (last : Int) (j : Nat) : (lfL fs lane last j).length ≤ j := by
  unfold lfL
  exact Nat.le_trans (List.length_filter_le _ _) (by rw [List.length_range]; exact Nat.le_refl _)
theorem lf_next {fs : List (Nat × Nat)} {lane k : Nat} {last : Int} (l0 : -1 ≤ last) (h : IsNext fs lane (last + 1).toNat k) : (k = fs.length → lfL fs lane last fs.length = []) ∧ (k < fs.length → ∃ r, lfL fs lane last fs.length = k :: r) := by
  have no : ∀ i, i < k → i < fs.length → (decide (last < (i : Int)) && onB lane (fs.getD i (0, 0))) = false := fun i ik il => by
    by_cases z : last < (i : Int)
    · have := h.none i fs[i] (by lia) ik (List.getElem?_eq_getElem il)
      rw [decide_eq_true z, Bool.true_and, List.getD_eq_getElem?_getD, List.getElem?_eq_getElem il]
      show onB lane fs[i] = false
      unfold onB
      rw [decide_eq_false (fun q => this (.inl q)), decide_eq_false (fun q => this (.inr q))]; rfl
    · rw [decide_eq_false z]; rfl
  have upto : ∀ j, j ≤ k → j ≤ fs.length → lfL fs lane last j = [] := fun j => by
    induction j with
    | zero => intro _ _; rfl
    | succ j ih =>
      intro a b
      rw [lf_succ, ih (by lia) (by lia), no j (by lia) (by lia)]; rfl
  refine ⟨fun e => upto _ (by lia) (Nat.le_refl _), fun kl => ?_⟩
  have here := h.here fs[k] (List.getElem?_eq_getElem kl)
  have yes : (decide (last < (k : Int)) && onB lane (fs.getD k (0, 0))) = true := by
    have := h.from_
    rw [decide_eq_true (by lia), Bool.true_and, List.getD_eq_getElem?_getD, List.getElem?_eq_getElem kl]
    show onB lane fs[k] = true
    unfold onB
    rcases here with q | q
    · rw [decide_eq_true q]; rfl
    · rw [decide_eq_true q, Bool.or_true]
  have more : ∀ j, k + 1 + j ≤ fs.length → ∃ r, lfL fs lane last (k + 1 + j) = k :: r := fun j => by
    induction j with
    | zero =>
      intro _
      exact ⟨[], by rw [Nat.add_zero, lf_succ, upto k (Nat.le_refl _) (by lia), yes]; rfl⟩
    | succ j ih =>
      intro b
      obtain ⟨r, e⟩ := ih (by lia)
      exact ⟨_, by rw [show k + 1 + (j + 1) = (k + 1 + j) + 1 by lia, lf_succ, e]; rfl⟩
  obtain ⟨r, e⟩ := more (fs.length - (k + 1)) (by lia)
  rw [show k + 1 + (fs.length - (k + 1)) = fs.length by lia] at e
  exact ⟨r, e⟩
end Bn
end
section
set_option maxHeartbeats 4000001
namespace L2
open PySem
end L2
end
section
set_option maxHeartbeats 4000001
namespace Bn
open PySem L2 Own
def isAt (p : Nat × Nat → Bool) : Option (Nat × Nat) → Bool
  | some o => p o
  | none => false
def cnt (os : List (Option (Nat × Nat))) (p : Nat × Nat → Bool) : Int := (os.countP (isAt p) : Nat)
end Bn
end
section
set_option maxHeartbeats 4000001
namespace Bn
open PySem L2 Own
end Bn
end
section
set_option maxHeartbeats 4000001
namespace Bn
open PySem L2 Own
def goes (n : Nat) : Option (Nat × Nat) → Nat
  | none => 0
  | some o => n + 1 - o.2
end Bn
namespace L2
open PySem PySem.Spec PyProof.Rows Own Bn
end L2
end
section
set_option maxHeartbeats 4000001
namespace Bn
open PySem L2 Own
end Bn
end
section
set_option maxHeartbeats 4000001
namespace Bn
open PySem L2 Own
end Bn
end
section
set_option maxHeartbeats 4000001
namespace Bn
open PySem L2 Own
end Bn
end
section
set_option maxHeartbeats 4000001
namespace Bn
open PySem L2 Own
end Bn
end
section
set_option maxHeartbeats 4000001
namespace Bn
open PySem L2 Own
end Bn
end
section
set_option maxHeartbeats 4000001
namespace L2
open PySem PySem.Spec PyProof.Rows Own
section
variable {X : Cx}
end
end L2
namespace Bn
open PySem L2 Own
end Bn
end
section
set_option maxHeartbeats 4000001
namespace Bn
open PySem L2 Own
end Bn
end
section
set_option maxHeartbeats 4000001
namespace L2
open PySem PySem.Spec PyProof.Rows Own
section
variable {prog : Program} {w : World} {A : Around} {E : Value → Shared → Prop} {it l : Addr} {items : Array Value}
end
section
variable {X : Cx}
end
end L2
end
section
set_option maxHeartbeats 4000001
namespace L2
open PySem
theorem Room.u1 {k : Nat} {A : Around} (r : Room k A) : A.units + 1 < cLine := by have := r.un; lia
end L2
namespace Bn
open PySem L2 Own
section
variable {H0 H H' : Hp} {l d lt lg lo : Addr} {qa : List Addr} {ts os : List Int} {gs : List Grp}
end
end Bn
end
section
set_option maxHeartbeats 4000001
namespace K26
open PySem L2 Own Bn
abbrev sKStep : Stmt := top 19
abbrev sKStart : Stmt := top 21
abbrev sKBegun : Stmt := top 20
structure KeptAt (H : Hp) (A : KAd) (N : Nt) (S : Tst) : Prop where
  hd : H A.d = some (.dK (kpt A (S.spots.length : Nat)))
  hb : ∃ kvs, H A.db = some (.dK kvs) ∧ KB H N kvs S.spots
  ho : H A.lo = some (.lst (nums S.came))
  hg : H A.lg = some (.lst (nums S.nms))
  ht : H A.lt = some (.lst (nums S.sets))
  n1 : A.d ≠ A.db
  n2 : A.lo ≠ A.lg
  n3 : A.lo ≠ A.lt
  n4 : A.lg ≠ A.lt
def But5 (A : KAd) (H H' : Hp) : Prop := ∀ b o, H b = some o → b ≠ A.d → b ≠ A.db → b ≠ A.lo → b ≠ A.lg → b ≠ A.lt → H' b = some o
theorem KeptAt.same {H H' : Hp} {A : KAd} {N : Nt} {S : Tst} (k : KeptAt H A N S) (s : Same H H') : KeptAt H' A N S := by
  obtain ⟨kvs, h1, h2⟩ := k.hb
  exact ⟨s _ _ k.hd, ⟨kvs, s _ _ h1, h2.tups (Tups.of s)⟩, s _ _ k.ho, s _ _ k.hg, s _ _ k.ht, k.n1, k.n2, k.n3, k.n4⟩
theorem KeptAt.len {H : Hp} {A : KAd} {N : Nt} {S : Tst} (k : KeptAt H A N S) : ∃ kvs, H A.db = some (.dK kvs) ∧ KB H N kvs S.spots ∧ kvs.length ≤ S.spots.length := by
  obtain ⟨kvs, h1, h2⟩ := k.hb
  refine ⟨kvs, h1, h2, ?_⟩
  have := congrArg List.length h2.ks
  rw [List.length_map, List.length_map] at this
  rw [this]
  unfold wayL
  exact Nat.le_trans (List.length_filter_le _ _) (by rw [List.length_range]; exact Nat.le_refl _)
def spKStart : Sp := fun vs H Q _ => ∃ (A : KAd) (N : Nt) (S : Tst) (lane k : Nat), vs = [.ref A.d, .int (lane : Nat)] ∧ KeptAt H A N S ∧ S.spots.length ≤ 1000 ∧ IsNext N.forks lane 0 k ∧
  ∀ H', KeptAt H' A N { S with spots := S.spots ++ [some (lane, k)] } → But5 A H H' → Q (.int (S.spots.length : Nat)) H'
def spKBegun : Sp := fun vs H Q _ => ∃ (r fr er : Addr) (ps : List V) (N : Nt), vs = [.ref r] ∧ Nt.Ok N ∧ NetAt H r fr er ps N ∧ ∀ (A : KAd) H', H A.d = none → H A.db = none → H A.lo = none → H A.lg = none → H A.lt = none → KeptAt H' A N (S0 N) → Same H H' → Q (.ref A.d) H'
def spKStep : Sp := fun vs H Q _ => ∃ (r fr er : Addr) (ps : List V) (N : Nt) (A : KAd) (S : Tst) (ball lane k : Nat), vs = [.ref r, .ref A.d, .int (ball : Nat)] ∧ Nt.Ok N ∧ NetAt H r fr er ps N ∧ KeptAt H A N S ∧ OkS N S ∧ S.spots[ball]? = some (some (lane, k)) ∧ S.spots.length ≤ 1000 ∧ S.nms.length ≤ 1000 ∧ (∀ x ∈ S.came, x ≤ 1000) ∧
  (k = N.forks.length → ∀ H', KeptAt H' A N (outT N S ball lane) → But5 A H H' → Q (.int (endN N lane + N.lanes * S.came.getD (endN N lane) 0 : Nat)) H') ∧
  (k < N.forks.length → ∀ k' H', IsNext N.forks (onT N S ball k) (k + 1) k' → KeptAt H' A N (goT N S ball k k') → But5 A H H' → Q .non H')
section
variable {P : Program} {w : World} {K : PySem.W.Frag} {mg : Str → Option Value} {base : Heap}
theorem scKt : FnScope ["_law_kept", "_law_lane"] ["_law_kept", "_law_lane"] (defScope sKStart) := ⟨rfl, rfl, rfl, by decide +kernel, rfl, by decide +kernel, by decide +kernel⟩
theorem ok_kstart {f : Addr} {fd : FuncData} (F : Fun K "_law_start" "_law_start" sKStart f fd) (G : Mgs mg) : FnOk P w K mg base CX0 1 f fd ["_law_kept", "_law_lane"] spKStart := by
  refine F.ok scKt (fun vs H Q E h => ?_) (fun cdv A' outer s H vs Q E hr h => ?_)
  · obtain ⟨A, N, S, lane, k, rfl, _⟩ := h
    rfl
  obtain ⟨A, N, S, lane, k, rfl, ka, l9, hk, q⟩ := h
  refine ⟨_, (@pss_cons _ _ _ _ _ (@ps_dput _ _ _ _ _ _ _ _ _ hr.u1 (@pe_dget _ _ _ _ _ _ hr.u1 (@pv _ 0 _ _ (by rfl) (by first | exact Or.inl rfl | exact Or.inr (Or.inl rfl) | exact Or.inr (Or.inr rfl)) (by decide) (by decide)) pe_str (fun _ _ => rfl)) (@pe_dget _ _ _ _ _ _ hr.u1 (@pv _ 0 _ _ (by rfl) (by first | exact Or.inl rfl | exact Or.inr (Or.inl rfl) | exact Or.inr (Or.inr rfl)) (by decide) (by decide)) pe_str (fun _ _ => rfl)) (@pe_tup _ _ _ _ _ (@pa_cons _ _ _ _ _ (@pv _ 1 _ _ (by rfl) (by first | exact Or.inl rfl | exact Or.inr (Or.inl rfl) | exact Or.inr (Or.inr rfl)) (by decide) (by decide)) (@pa_cons _ _ _ _ _ (@pe_un _ _ _ _ _ _ un_neg pe_int) pa_nil (by rfl)) (by rfl))) (by rfl)) (@pss_cons _ _ _ _ _ (@ps_dput _ _ _ _ _ _ _ _ _ hr.u1 (@pv _ 0 _ _ (by rfl) (by first | exact Or.inl rfl | exact Or.inr (Or.inl rfl) | exact Or.inr (Or.inr rfl)) (by decide) (by decide)) pe_str (@pe_op _ _ _ _ _ _ _ _ op_add (@pe_dget _ _ _ _ _ _ hr.u1 (@pv _ 0 _ _ (by rfl) (by first | exact Or.inl rfl | exact Or.inr (Or.inl rfl) | exact Or.inr (Or.inr rfl)) (by decide) (by decide)) pe_str (fun _ _ => rfl)) pe_int) (by rfl)) (@pss_one _ _ _ (@ps_ret _ _ _ _ (@pe_op _ _ _ _ _ _ _ _ op_sub (@pe_dget _ _ _ _ _ _ hr.u1 (@pv _ 0 _ _ (by rfl) (by first | exact Or.inl rfl | exact Or.inr (Or.inl rfl) | exact Or.inr (Or.inr rfl)) (by decide) (by decide)) pe_str (fun _ _ => rfl)) pe_int))))), ?_⟩
  obtain ⟨kvs, hb, kb, kl⟩ := ka.len
  refine ⟨_, rfl, _, rfl, by show 2 ≤ sizeLine; decide, fun t ht => ?_⟩
  have s1 := same_new ht (.tup [.int (lane : Nat), .int (-1)])
  have ka1 := ka.same s1
  have hb1 := s1 _ _ hb
  have ht1 := atNew ht (.tup [.int (lane : Nat), .int (-1)])
  have kb1 := (kb.tups (Tups.of s1)).start ht1 hk
  generalize L2.upd H t (.tup [.int (lane : Nat), .int (-1)]) = H1 at s1 ka1 hb1 ht1 kb1 ⊢
  refine ⟨_, rfl, A.d, _, rfl, kpt_b ▸ DGet.k (k := .inr "balls") ka1.hd, _, rfl, A.d, _, rfl, kpt_m ▸ DGet.k (k := .inr "many") ka1.hd, A.db, _, rfl, DPut.k (k := .inl (S.spots.length : Nat)) hb1 (by rw [sizeLine_eq]; lia), ?_⟩
  have hd2 : L2.upd H1 A.db (.dK (putK kvs (.inl (S.spots.length : Nat)) (.ref t))) A.d = some (.dK (kpt A (S.spots.length : Nat))) := by rw [upd_ne ka1.n1]; exact ka1.hd
  have hb2 : L2.upd H1 A.db (.dK (putK kvs (.inl (S.spots.length : Nat)) (.ref t))) A.db = some (.dK (putK kvs (.inl (S.spots.length : Nat)) (.ref t))) := upd_same
  refine ⟨_, rfl, A.d, _, rfl, kpt_m ▸ DGet.k (k := .inr "many") hd2, _, _, rfl, rfl, _, rfl, A.d, _, rfl, DPut.k (k := .inr "many") hd2 (by show 5 < sizeLine; decide), ?_⟩
  dsimp only
  rw [kpt_put]
  have hl : ((S.spots ++ [some (lane, k)]).length : Nat) = S.spots.length + 1 := by rw [List.length_append]; rfl
  have e1 : ((S.spots.length : Nat) : Int) + 1 = ((S.spots ++ [some (lane, k)]).length : Nat) := by rw [hl]; lia
  rw [e1]
  have tp : Tups H1 (L2.upd (L2.upd H1 A.db (.dK (putK kvs (.inl (S.spots.length : Nat)) (.ref t)))) A.d (.dK (kpt A ((S.spots ++ [some (lane, k)]).length : Nat)))) := fun b xs e => by
    rw [upd_ne (ne_of e ka1.hd (fun z => by cases z)), upd_ne (ne_of e hb1 (fun z => by cases z))]; exact e
  have ls : ∀ {b : Addr} {xs : List V}, H1 b = some (.lst xs) → (L2.upd (L2.upd H1 A.db (.dK (putK kvs (.inl (S.spots.length : Nat)) (.ref t)))) A.d (.dK (kpt A ((S.spots ++ [some (lane, k)]).length : Nat)))) b = some (.lst xs) := fun e => by
    rw [upd_ne (ne_of e ka1.hd (fun z => by cases z)), upd_ne (ne_of e hb1 (fun z => by cases z))]; exact e
  have fin : KeptAt (L2.upd (L2.upd H1 A.db (.dK (putK kvs (.inl (S.spots.length : Nat)) (.ref t)))) A.d (.dK (kpt A ((S.spots ++ [some (lane, k)]).length : Nat)))) A N { S with spots := S.spots ++ [some (lane, k)] } :=
    ⟨upd_same, ⟨_, by rw [upd_ne ka1.n1.symm]; exact upd_same, kb1.tups tp⟩, ls ka1.ho, ls ka1.hg, ls ka1.ht, ka1.n1, ka1.n2, ka1.n3, ka1.n4⟩
  have bt : But5 A H (L2.upd (L2.upd H1 A.db (.dK (putK kvs (.inl (S.spots.length : Nat)) (.ref t)))) A.d (.dK (kpt A ((S.spots ++ [some (lane, k)]).length : Nat)))) := fun b o e m1 m2 _ _ _ => by
    rw [upd_ne m1, upd_ne m2]; exact s1 _ _ e
  generalize L2.upd (L2.upd H1 A.db (.dK (putK kvs (.inl (S.spots.length : Nat)) (.ref t)))) A.d (.dK (kpt A ((S.spots ++ [some (lane, k)]).length : Nat))) = H3 at fin bt ⊢
  refine ⟨_, rfl, A.d, _, rfl, kpt_m ▸ DGet.k (k := .inr "many") fin.hd, _, _, rfl, rfl, ?_⟩
  have e2 : (((S.spots ++ [some (lane, k)]).length : Nat) : Int) - 1 = (S.spots.length : Nat) := by rw [hl]; lia
  have := q _ fin bt
  rw [← e2] at this
  exact this
theorem scKg : FnScope ["_law_net_here"] ["_law_net_here"] (defScope sKBegun) := ⟨rfl, rfl, rfl, by decide +kernel, rfl, by decide +kernel, by decide +kernel⟩
theorem ok_kbegun {f : Addr} {fd : FuncData} (F : Fun K "_law_begun" "_law_begun" sKBegun f fd) (G : Mgs mg) : FnOk P w K mg base CX0 1 f fd ["_law_net_here"] spKBegun := by
  refine F.ok scKg (fun vs H Q E h => ?_) (fun cdv A' outer s H vs Q E hr h => ?_)
  · obtain ⟨r, fr, er, ps, N, rfl, _⟩ := h
    rfl
  obtain ⟨r, fr, er, ps, N, rfl, ok, na, q⟩ := h
  refine ⟨_, (@pss_one _ _ _ (@ps_ret _ _ _ _ (@pe_disp _ _ _ _ _ (pps_cons pe_str pe_dnewK (pps_cons pe_str (@pe_op _ _ _ _ _ _ _ _ op_rep (@pe_lst _ _ _ _ (@pa_cons _ _ _ _ _ pe_int pa_nil (by rfl))) (@pe_ix _ _ _ _ _ _ _ ix_tup (@pv _ 0 _ _ (by rfl) (by first | exact Or.inl rfl | exact Or.inr (Or.inl rfl) | exact Or.inr (Or.inr rfl)) (by decide) (by decide)) pe_int (fun _ _ => rfl))) (pps_cons pe_str (@pe_lst _ _ _ _ pa_nil) (pps_cons pe_str (@pe_op _ _ _ _ _ _ _ _ op_rep (@pe_lst _ _ _ _ (@pa_cons _ _ _ _ _ pe_int pa_nil (by rfl))) (@pe_callB _ _ _ _ _ _ _ _ _ call_len_seq (by rfl) G.len PySem.boot_len (@pa_cons _ _ _ _ _ (@pe_ix _ _ _ _ _ _ _ ix_tup (@pv _ 0 _ _ (by rfl) (by first | exact Or.inl rfl | exact Or.inr (Or.inl rfl) | exact Or.inr (Or.inr rfl)) (by decide) (by decide)) pe_int (fun _ _ => rfl)) pa_nil (by rfl)) (by decide) (by decide) (by rfl) (by rfl))) (pps_cons pe_str pe_int pps_nil))))) rfl rfl (by simp) (by decide)))), ?_⟩
  have fm := ok.fm
  have l16 := ok.l16
  have pl := na.prs.len
  intro d hd
  have s0 := same_new hd (.dK [])
  intro db hdb
  have s1 := same_new hdb (.dK [])
  have ndb : d ≠ db := ne_of_none (upd_same (H := H)) hdb
  refine ⟨(by show 1 ≤ sizeLine; decide), fun p1 hp1 => ?_⟩
  have s2 := same_new hp1 (.lst [.int 0])
  have na2 := na.tups (Tups.of ((s0.trans s1).trans s2))
  refine ⟨_, rfl, r, _, 0, _, rfl, rfl, SqT.of na2.net, rfl, p1, N.lanes, _, rfl, rfl, upd_same, by lia, by lia, by show 1 * _ ≤ sizeLine; rw [sizeLine_eq]; lia, fun lo hlo => ?_⟩
  have zz : ∀ m : Nat, (List.replicate m [V.int 0]).flatten = nums (List.replicate m 0) := fun m => by
    induction m with
    | zero => rfl
    | succ m ih => rw [List.replicate_succ, List.flatten_cons, ih, List.replicate_succ]; rfl
  rw [Int.toNat_natCast, zz]
  have s3 := same_new hlo (.lst (nums (List.replicate N.lanes 0)))
  have ho3 := atNew hlo (.lst (nums (List.replicate N.lanes 0)))
  have u3 := ((s0.trans s1).trans s2).trans s3
  have hd3 := ((s1.trans s2).trans s3) _ _ (upd_same (H := H) (a := d) (o := .dK []))
  have hb3 := (s2.trans s3) _ _ (upd_same (a := db) (o := .dK []))
  have hlo' := hlo
  generalize L2.upd _ lo (.lst (nums (List.replicate N.lanes 0))) = H3 at s3 ho3 u3 hd3 hb3 ⊢
  refine ⟨(by show 0 ≤ sizeLine; decide), fun lg hlg => ?_⟩
  have s4 := same_new hlg (.lst [])
  refine ⟨(by show 1 ≤ sizeLine; decide), fun p2 hp2 => ?_⟩
  have s5 := same_new hp2 (.lst [.int 0])
  have na5 := na.tups (Tups.of ((u3.trans s4).trans s5))
  refine ⟨_, rfl, r, _, 1, _, rfl, rfl, SqT.of na5.net, rfl, fr, _, rfl, .inr (SqT.of na5.forks), p2, ps.length, _, rfl, rfl, upd_same, by lia, by lia, by show 1 * _ ≤ sizeLine; rw [sizeLine_eq]; lia, fun lt hlt => ?_⟩
  rw [Int.toNat_natCast, zz, pl]
  have s6 := same_new hlt (.lst (nums (List.replicate N.forks.length 0)))
  have ht6 := atNew hlt (.lst (nums (List.replicate N.forks.length 0)))
  have hg6 := (s5.trans s6) _ _ (atNew hlg (.lst []))
  have ho6 := ((s4.trans s5).trans s6) _ _ ho3
  have hd6 := ((s4.trans s5).trans s6) _ _ hd3
  have hb6 := ((s4.trans s5).trans s6) _ _ hb3
  have u6 := ((u3.trans s4).trans s5).trans s6
  have m1 : lo ≠ lg := ne_of_none ho3 hlg
  have m2 : lo ≠ lt := ne_of_none ((s4.trans s5) _ _ ho3) hlt
  have m3 : lg ≠ lt := ne_of_none (s5 _ _ (atNew hlg (.lst []))) hlt
  have back : ∀ {Hx : Hp} {x : Addr}, Same H Hx → Hx x = none → H x = none := fun {Hx x} sx hx => by
    cases e : H x with
    | none => rfl
    | some o => rw [sx _ _ e] at hx; cases hx
  have f2 := back s0 hdb
  have f3 := back ((s0.trans s1).trans s2) hlo'
  have f4 := back u3 hlg
  have f5 := back ((u3.trans s4).trans s5) hlt
  generalize L2.upd _ lt (.lst (nums (List.replicate N.forks.length 0))) = H6 at ht6 hg6 ho6 hd6 hb6 u6 ⊢
  refine ⟨hd6, kpt ⟨d, db, lo, lg, lt⟩ 0, rfl, by show 5 ≤ 15; decide, ?_⟩
  rw [kpt_merge]
  have ls : ∀ {b : Addr} {xs : List V}, H6 b = some (.lst xs) → (L2.upd H6 d (.dK (kpt ⟨d, db, lo, lg, lt⟩ 0))) b = some (.lst xs) := fun e => by
    rw [upd_ne (ne_of e hd6 (fun z => by cases z))]; exact e
  refine q ⟨d, db, lo, lg, lt⟩ _ hd f2 f3 f4 f5 ⟨upd_same, ⟨[], by show L2.upd H6 d _ db = _; rw [upd_ne ndb.symm]; exact hb6, ⟨rfl, fun b lane k e => by cases e⟩⟩, ls ho6, ls hg6, ls ht6, ndb, m1, m2, m3⟩ fun b o e => ?_
  rw [upd_ne (ne_of_none e hd)]; exact u6 _ _ e
end
end K26
end
section
set_option maxHeartbeats 4000001
namespace K26
open PySem L2 Own Bn
section
variable {P : Program} {w : World} {K : PySem.W.Frag} {mg : Str → Option Value} {base : Heap}
theorem scKs : FnScope ["_law_net_here", "_law_kept", "_law_ball", "_law_lane", "_law_last", "_law_left", "_law_end", "_law_number", "_law_fork"] ["_law_net_here", "_law_kept", "_law_ball"] (defScope sKStep) := ⟨rfl, rfl, rfl, by decide +kernel, rfl, by decide +kernel, by decide +kernel⟩
theorem ok_kstep {f : Addr} {fd : FuncData} (F : Fun K "_law_step" "_law_step" sKStep f fd) (G : Mgs mg) : FnOk P w K mg base CX0 1 f fd ["_law_net_here", "_law_kept", "_law_ball"] spKStep := by
  refine F.ok scKs (fun vs H Q E h => ?_) (fun cdv A' outer s H vs Q E hr h => ?_)
  · obtain ⟨r, fr, er, ps, N, A, S, ball, lane, k, rfl, _⟩ := h
    rfl
  obtain ⟨r, fr, er, ps, N, A, S, ball, lane, k, rfl, ok, na, ka, os, hs, s9, n9, c9, q1, q2⟩ := h
  refine ⟨_, (@pss_cons _ _ _ _ _ (@ps_asg _ _ _ _ _ _ (@pe_dget _ _ _ _ _ _ hr.u1 (@pe_dget _ _ _ _ _ _ hr.u1 (@pv _ 1 _ _ (by rfl) (by first | exact Or.inl rfl | exact Or.inr (Or.inl rfl) | exact Or.inr (Or.inr rfl)) (by decide) (by decide)) pe_str (fun _ _ => rfl)) (@pv _ 2 _ _ (by rfl) (by first | exact Or.inl rfl | exact Or.inr (Or.inl rfl) | exact Or.inr (Or.inr rfl)) (by decide) (by decide)) (fun _ _ => rfl)) (@pg_tup _ _ _ _ _ _ rfl (@pgs_cons _ _ _ _ _ (@pg_name _ _ 3 _ scKs.nd rfl (Or.inr rfl) (by first | exact .inl rfl | exact .inr rfl | assumption)) (@pgs_cons _ _ _ _ _ (@pg_name _ _ 4 _ scKs.nd rfl (Or.inr rfl) (by first | exact .inl rfl | exact .inr rfl | assumption)) pgs_nil (by rfl)) (by rfl)) (by rfl) (by rfl)) (by rfl) (by rfl) (by rfl)) (@pss_cons _ _ _ _ _ (@ps_setLC _ 5 _ _ _ _ (some _) _ _ _ _ _ (gTup K 2 (gCons (gName 0) (gCons (gName 1) gNil))) _ _ ["_law_k", "_law_fork", "_law_last", "_law_lane"] [none, none, some 4, some 3] scKs.nd rfl rfl rfl (@pi_enum _ _ _ _ _ _ _ _ false rfl G.enum (@pa_cons _ _ _ _ _ (@pe_ix _ _ _ _ _ _ _ ix_tup (@pv _ 0 _ _ (by rfl) (by first | exact Or.inl rfl | exact Or.inr (Or.inl rfl) | exact Or.inr (Or.inr rfl)) (by decide) (by decide)) pe_int (fun _ _ => rfl)) pa_nil (by rfl)) (by rfl)) (CapOk.of (by kernel_rfl)) (fun _ _ _ _ _ => (@pg_tup _ _ _ _ _ _ rfl (@pgs_cons _ _ _ _ _ (@pg_name _ _ 0 _ (show (["_law_k", "_law_fork", "_law_last", "_law_lane"] : List Str).Nodup from by decide +kernel) rfl (Or.inl rfl) (Or.inr rfl)) (@pgs_cons _ _ _ _ _ (@pg_name _ _ 1 _ (show (["_law_k", "_law_fork", "_law_last", "_law_lane"] : List Str).Nodup from by decide +kernel) rfl (Or.inl rfl) (Or.inr rfl)) pgs_nil (by rfl)) (by rfl)) (by rfl) (by rfl))) (fun _ _ _ _ _ => (@pt_some _ _ _ (PW.pt (@pw_and _ _ _ _ _ _ _ (@pt_cmpR _ _ _ _ _ _ _ _ op_gt (@pv _ 0 _ _ (by rfl) (by first | exact Or.inl rfl | exact Or.inr (Or.inl rfl) | exact Or.inr (Or.inr rfl)) (by decide) (by decide)) (@pv _ 2 _ _ (by rfl) (by first | exact Or.inl rfl | exact Or.inr (Or.inl rfl) | exact Or.inr (Or.inr rfl)) (by decide) (by decide)) (nomark _)) (@pw_and1 _ _ _ _ (@pt_cmpR _ _ _ _ _ _ _ (rIn K false) op_in_seq (@pv _ 3 _ _ (by rfl) (by first | exact Or.inl rfl | exact Or.inr (Or.inl rfl) | exact Or.inr (Or.inr rfl)) (by decide) (by decide)) (@pv _ 1 _ _ (by rfl) (by first | exact Or.inl rfl | exact Or.inr (Or.inl rfl) | exact Or.inr (Or.inr rfl)) (by decide) (by decide)) (by rfl))))))) (fun _ _ _ _ _ => (@pv _ 0 _ _ (by rfl) (by first | exact Or.inl rfl | exact Or.inr (Or.inl rfl) | exact Or.inr (Or.inr rfl)) (by decide) (by decide))) (by intro _; rfl) (by with_unfolding_all rfl)) (@pss_cons _ _ _ _ _ (@ps_if _ _ _ _ _ _ _ _ (@pt_cmpR _ _ _ _ _ _ _ _ (op_eqLi hr.units0) (@pv _ 5 _ _ (by rfl) (by first | exact Or.inl rfl | exact Or.inr (Or.inl rfl) | exact Or.inr (Or.inr rfl)) (by decide) (by decide)) (@pe_lst _ _ _ _ pa_nil) (nomark _)) (@pss_cons _ _ _ _ _ (@ps_expr _ _ _ _ (@pe_dpop1 _ _ _ _ _ _ _ (@pe_dget _ _ _ _ _ _ hr.u1 (@pv _ 1 _ _ (by rfl) (by first | exact Or.inl rfl | exact Or.inr (Or.inl rfl) | exact Or.inr (Or.inr rfl)) (by decide) (by decide)) pe_str (fun _ _ => rfl)) (@pv _ 2 _ _ (by rfl) (by first | exact Or.inl rfl | exact Or.inr (Or.inl rfl) | exact Or.inr (Or.inr rfl)) (by decide) (by decide)) ⟨rfl, rfl, rfl, rfl⟩) (by rfl)) (@pss_cons _ _ _ _ _ (@ps_set _ _ 6 _ _ _ _ scKs.nd rfl (Or.inl rfl) (@pe_tidx _ _ _ _ _ _ _ hr.units (@pe_ix _ _ _ _ _ _ _ ix_tup (@pv _ 0 _ _ (by rfl) (by first | exact Or.inl rfl | exact Or.inr (Or.inl rfl) | exact Or.inr (Or.inr rfl)) (by decide) (by decide)) pe_int (fun _ _ => rfl)) (@pa_cons _ _ _ _ _ (@pv _ 3 _ _ (by rfl) (by first | exact Or.inl rfl | exact Or.inr (Or.inl rfl) | exact Or.inr (Or.inr rfl)) (by decide) (by decide)) pa_nil (by rfl)) (by rfl) (by rfl) (by rfl) (by rfl)) (by rfl) (by first | exact .inl rfl | exact .inr rfl | assumption)) (@pss_cons _ _ _ _ _ (@ps_set _ _ 7 _ _ _ _ scKs.nd rfl (Or.inl rfl) (@pe_op _ _ _ _ _ _ _ _ op_add (@pv _ 6 _ _ (by rfl) (by first | exact Or.inl rfl | exact Or.inr (Or.inl rfl) | exact Or.inr (Or.inr rfl)) (by decide) (by decide)) (@pe_op _ _ _ _ _ _ _ _ op_mul (@pe_ix _ _ _ _ _ _ _ ix_tup (@pv _ 0 _ _ (by rfl) (by first | exact Or.inl rfl | exact Or.inr (Or.inl rfl) | exact Or.inr (Or.inr rfl)) (by decide) (by decide)) pe_int (fun _ _ => rfl)) (@pe_ix _ _ _ _ _ _ _ ix_list (@pe_dget _ _ _ _ _ _ hr.u1 (@pv _ 1 _ _ (by rfl) (by first | exact Or.inl rfl | exact Or.inr (Or.inl rfl) | exact Or.inr (Or.inr rfl)) (by decide) (by decide)) pe_str (fun _ _ => rfl)) (@pv _ 6 _ _ (by rfl) (by first | exact Or.inl rfl | exact Or.inr (Or.inl rfl) | exact Or.inr (Or.inr rfl)) (by decide) (by decide)) (fun _ _ => rfl)))) (by rfl) (by first | exact .inl rfl | exact .inr rfl | assumption)) (@pss_cons _ _ _ _ _ (@ps_asg _ _ _ _ _ _ (@pe_op _ _ _ _ _ _ _ _ op_add (@pe_ix _ _ _ _ _ _ _ ix_list (@pe_dget _ _ _ _ _ _ hr.u1 (@pv _ 1 _ _ (by rfl) (by first | exact Or.inl rfl | exact Or.inr (Or.inl rfl) | exact Or.inr (Or.inr rfl)) (by decide) (by decide)) pe_str (fun _ _ => rfl)) (@pv _ 6 _ _ (by rfl) (by first | exact Or.inl rfl | exact Or.inr (Or.inl rfl) | exact Or.inr (Or.inr rfl)) (by decide) (by decide)) (fun _ _ => rfl)) pe_int) (@pg_sub _ _ _ _ _ _ _ (@pe_dget _ _ _ _ _ _ hr.u1 (@pv _ 1 _ _ (by rfl) (by first | exact Or.inl rfl | exact Or.inr (Or.inl rfl) | exact Or.inr (Or.inr rfl)) (by decide) (by decide)) pe_str (fun _ _ => rfl)) (@pv _ 6 _ _ (by rfl) (by first | exact Or.inl rfl | exact Or.inr (Or.inl rfl) | exact Or.inr (Or.inr rfl)) (by decide) (by decide)) set_list (by intro _; rfl)) (by rfl) (by rfl) (by rfl)) (@pss_cons _ _ _ _ _ (@ps_expr _ _ _ _ (@pe_bm _ _ _ _ _ _ _ _ _ _ _ _ PySem.F.plainAttrs_list PySem.F.slot_list_append PySem.F.type_list_append mt_append (@pe_dget _ _ _ _ _ _ hr.u1 (@pv _ 1 _ _ (by rfl) (by first | exact Or.inl rfl | exact Or.inr (Or.inl rfl) | exact Or.inr (Or.inr rfl)) (by decide) (by decide)) pe_str (fun _ _ => rfl)) (@pa_cons _ _ _ _ _ (@pv _ 7 _ _ (by rfl) (by first | exact Or.inl rfl | exact Or.inr (Or.inl rfl) | exact Or.inr (Or.inr rfl)) (by decide) (by decide)) pa_nil (by rfl)) (by rfl) (by rfl) (by rfl) (by rfl) (by rfl)) (by rfl)) (@pss_one _ _ _ (@ps_ret _ _ _ _ (@pv _ 7 _ _ (by rfl) (by first | exact Or.inl rfl | exact Or.inr (Or.inl rfl) | exact Or.inr (Or.inr rfl)) (by decide) (by decide))))))))) pss_nil) (@pss_cons _ _ _ _ _ (@ps_set _ _ 8 _ _ _ _ scKs.nd rfl (Or.inl rfl) (@pe_ix _ _ _ _ _ _ _ ix_list (@pv _ 5 _ _ (by rfl) (by first | exact Or.inl rfl | exact Or.inr (Or.inl rfl) | exact Or.inr (Or.inr rfl)) (by decide) (by decide)) pe_int (fun _ _ => rfl)) (by rfl) (by first | exact .inl rfl | exact .inr rfl | assumption)) (@pss_cons _ _ _ _ _ (@ps_dput _ _ _ _ _ _ _ _ _ hr.u1 (@pe_dget _ _ _ _ _ _ hr.u1 (@pv _ 1 _ _ (by rfl) (by first | exact Or.inl rfl | exact Or.inr (Or.inl rfl) | exact Or.inr (Or.inr rfl)) (by decide) (by decide)) pe_str (fun _ _ => rfl)) (@pv _ 2 _ _ (by rfl) (by first | exact Or.inl rfl | exact Or.inr (Or.inl rfl) | exact Or.inr (Or.inr rfl)) (by decide) (by decide)) (@pe_tup _ _ _ _ _ (@pa_cons _ _ _ _ _ (@pe_ix _ _ _ _ _ _ _ ix_tup (@pe_ix _ _ _ _ _ _ _ ix_tup (@pe_ix _ _ _ _ _ _ _ ix_tup (@pv _ 0 _ _ (by rfl) (by first | exact Or.inl rfl | exact Or.inr (Or.inl rfl) | exact Or.inr (Or.inr rfl)) (by decide) (by decide)) pe_int (fun _ _ => rfl)) (@pv _ 8 _ _ (by rfl) (by first | exact Or.inl rfl | exact Or.inr (Or.inl rfl) | exact Or.inr (Or.inr rfl)) (by decide) (by decide)) (fun _ _ => rfl)) (@pe_ix _ _ _ _ _ _ _ ix_list (@pe_dget _ _ _ _ _ _ hr.u1 (@pv _ 1 _ _ (by rfl) (by first | exact Or.inl rfl | exact Or.inr (Or.inl rfl) | exact Or.inr (Or.inr rfl)) (by decide) (by decide)) pe_str (fun _ _ => rfl)) (@pv _ 8 _ _ (by rfl) (by first | exact Or.inl rfl | exact Or.inr (Or.inl rfl) | exact Or.inr (Or.inr rfl)) (by decide) (by decide)) (fun _ _ => rfl)) (fun _ _ => rfl)) (@pa_cons _ _ _ _ _ (@pv _ 8 _ _ (by rfl) (by first | exact Or.inl rfl | exact Or.inr (Or.inl rfl) | exact Or.inr (Or.inr rfl)) (by decide) (by decide)) pa_nil (by rfl)) (by rfl))) (by rfl)) (@pss_cons _ _ _ _ _ (@ps_asg _ _ _ _ _ _ (@pe_op _ _ _ _ _ _ _ _ op_sub pe_int (@pe_ix _ _ _ _ _ _ _ ix_list (@pe_dget _ _ _ _ _ _ hr.u1 (@pv _ 1 _ _ (by rfl) (by first | exact Or.inl rfl | exact Or.inr (Or.inl rfl) | exact Or.inr (Or.inr rfl)) (by decide) (by decide)) pe_str (fun _ _ => rfl)) (@pv _ 8 _ _ (by rfl) (by first | exact Or.inl rfl | exact Or.inr (Or.inl rfl) | exact Or.inr (Or.inr rfl)) (by decide) (by decide)) (fun _ _ => rfl))) (@pg_sub _ _ _ _ _ _ _ (@pe_dget _ _ _ _ _ _ hr.u1 (@pv _ 1 _ _ (by rfl) (by first | exact Or.inl rfl | exact Or.inr (Or.inl rfl) | exact Or.inr (Or.inr rfl)) (by decide) (by decide)) pe_str (fun _ _ => rfl)) (@pv _ 8 _ _ (by rfl) (by first | exact Or.inl rfl | exact Or.inr (Or.inl rfl) | exact Or.inr (Or.inr rfl)) (by decide) (by decide)) set_list (by intro _; rfl)) (by rfl) (by rfl) (by rfl)) (@pss_one _ _ _ (@ps_ret _ _ _ _ pe_non)))))))), ?_⟩
  obtain ⟨kvs, hb, kb, kl⟩ := ka.len
  obtain ⟨t, last, vb, ht, l0, nx0⟩ := kb.at_ ball lane k hs
  have sp := os.sp lane k (List.mem_of_getElem? hs)
  have pl := na.prs.len
  have fm := ok.fm
  refine ⟨_, rfl, A.d, _, rfl, kpt_b ▸ DGet.k (k := .inr "balls") ka.hd, _, rfl, A.db, _, rfl, vb ▸ DGet.k (k := .inl (ball : Nat)) hb, ?_⟩
  refine ⟨t, _, rfl, SqT.of ht, rfl, _, _, rfl, _, _, rfl, rfl, ?_⟩
  refine ⟨_, rfl, r, _, _, _, rfl, rfl, SqT.of na.net, rfl, fr, _, rfl, SqT.of na.forks, fun l hl => ?_⟩
  refine lc_enumT (K := K) (b := false) (a := fr) (xs := ps) (fun j acc σ H2 => (∃ v0 v1, σ = [v0, v1, some (.int last), some (.int (lane : Nat))]) ∧ Same H H2 ∧ H2 l = some (.lst acc) ∧ acc = nums (lfL N.forks lane last j)) ⟨⟨_, _, rfl⟩, same_new hl _, upd_same, rfl⟩ (fun j acc σ H2 z => ⟨z.2.2.1, SqT.of (z.2.1 _ _ na.forks)⟩) ?_ ?_
  · rintro j acc σ H2 x T hx hT ⟨⟨v0, v1, rfl⟩, s2, h2, rfl⟩
    obtain ⟨a, g, rfl, eg, ha⟩ := na.prs.get hx
    have jl : j < N.forks.length := (List.getElem?_eq_some_iff.mp eg).1
    have jp : j < ps.length := by lia
    have s3 := same_new hT (.tup [.int (j : Nat), .ref a])
    have ga : N.forks.getD j (0, 0) = g := by rw [List.getD_eq_getElem?_getD, eg]; rfl
    have h3 := s3 _ _ h2
    have ha3 := s3 _ _ (s2 _ _ ha)
    refine ⟨T, _, rfl, SqT.of upd_same, rfl, _, _, rfl, _, _, rfl, rfl, ?_⟩
    generalize L2.upd H2 T (.tup [.int (j : Nat), .ref a]) = H3 at s3 h3 ha3 ⊢
    have ls := lf_succ N.forks lane last j
    have ll := lf_len N.forks lane last j
    rw [ga] at ls
    refine ⟨_, rfl, _, rfl, _, _, rfl, rfl, _, rfl, ?_⟩
    by_cases z : last < (j : Int)
    · rw [decide_eq_true z]
      rw [decide_eq_true z, Bool.true_and] at ls
      refine iteT ⟨_, rfl, _, rfl, a, _, rfl, .inr (SqT.of ha3), rfl, rfl, _, rfl, ?_⟩
      have ei : inV (V.int (lane : Nat)) [V.int (g.1 : Nat), V.int (g.2 : Nat)] = onB lane g := by
        unfold inV onB
        rw [List.any_cons, List.any_cons, List.any_nil, Bool.or_false]
        congr 1
        · exact decide_eq_decide.mpr ⟨fun q => by lia, fun q => by lia⟩
        · exact decide_eq_decide.mpr ⟨fun q => by lia, fun q => by lia⟩
      rw [if_neg Bool.false_ne_true, ei]
      cases on : onB lane g with
      | true =>
        rw [on, if_pos rfl] at ls
        refine iteT ⟨_, rfl, h3, by rw [nums_len, sizeLine_eq]; lia, nx jp ⟨⟨_, _, rfl⟩, fun b o e => ?_, upd_same, ?_⟩⟩
        · rw [upd_ne (ne_of_none e hl)]; exact (s2.trans s3) b o e
        · rw [ls]; unfold nums; rw [List.map_append]; rfl
      | false =>
        rw [on, if_neg Bool.false_ne_true, List.append_nil] at ls
        exact iteF (nx jp ⟨⟨_, _, rfl⟩, s2.trans s3, h3, by rw [ls]⟩)
    · rw [decide_eq_false z]
      rw [decide_eq_false z, Bool.false_and, if_neg Bool.false_ne_true, List.append_nil] at ls
      exact iteF (nx jp ⟨⟨_, _, rfl⟩, s2.trans s3, h3, by rw [ls]⟩)
  rintro acc σ H2 ⟨⟨v0, v1, rfl⟩, s2, h2, rfl⟩
  rw [pl] at h2
  have ln := lf_next l0 nx0
  have ll := lf_len N.forks lane last N.forks.length
  have ka2 := ka.same s2
  have na2 := na.tups (Tups.of s2)
  have hb2 := s2 _ _ hb
  have kb2 := kb.tups (Tups.of s2)
  refine ⟨_, rfl, by show 0 ≤ sizeLine; decide, fun le hle => ?_⟩
  have s3 := same_new hle (.lst [])
  have h3 := s3 _ _ h2
  have e3 := atNew hle (.lst [])
  have ka3 := ka2.same s3
  have na3 := na2.tups (Tups.of s3)
  have hb3 := s3 _ _ hb2
  have kb3 := kb2.tups (Tups.of s3)
  have u3 := s2.trans s3
  generalize L2.upd H2 le (.lst []) = H3 at s3 h3 e3 ka3 na3 hb3 kb3 u3 ⊢
  refine ⟨l, le, (lfL N.forks lane last N.forks.length).map (fun (i : Nat) => (i : Int)), [], rfl, rfl, SqL.of (by rw [h3, List.map_map]; rfl), SqL.of e3, _, rfl, ?_⟩
  by_cases kf : k = N.forks.length
  · dsimp only
    rw [ln.1 kf]
    refine iteT ?_
    refine ⟨_, rfl, A.d, .ref A.db, rfl, kpt_b ▸ DGet.k (k := .inr "balls") ka3.hd, A.db, rfl, ?_, _, rfl, kvs, .inl (ball : Nat), _, hb3, rfl, vb, ?_⟩
    · exact .inl ⟨kvs, .inl hb3⟩
    have kb4 := kb3.out ball
    have tp4 : Tups H3 (L2.upd H3 A.db (.dK (dropK kvs (.inl (ball : Nat))))) := fun b xs e => by rw [upd_ne (ne_of e hb3 (fun z => by cases z))]; exact e
    have ls4 : ∀ {b : Addr} {xs : List V}, H3 b = some (.lst xs) → L2.upd H3 A.db (.dK (dropK kvs (.inl (ball : Nat)))) b = some (.lst xs) := fun e => by rw [upd_ne (ne_of e hb3 (fun z => by cases z))]; exact e
    have hb4 : L2.upd H3 A.db (.dK (dropK kvs (.inl (ball : Nat)))) A.db = some (.dK (dropK kvs (.inl (ball : Nat)))) := upd_same
    have hd4 : L2.upd H3 A.db (.dK (dropK kvs (.inl (ball : Nat)))) A.d = some (.dK (kpt A (S.spots.length : Nat))) := by rw [upd_ne ka3.n1]; exact ka3.hd
    have ho4 := ls4 ka3.ho
    have hg4 := ls4 ka3.hg
    have ht4 := ls4 ka3.ht
    have na4 := na3.tups tp4
    replace kb4 := kb4.tups tp4
    have bt4 : But5 A H (L2.upd H3 A.db (.dK (dropK kvs (.inl (ball : Nat))))) := fun b o e m1 m2 _ _ _ => by rw [upd_ne m2]; exact u3 _ _ e
    generalize L2.upd H3 A.db (.dK (dropK kvs (.inl (ball : Nat)))) = H4 at hb4 hd4 ho4 hg4 ht4 na4 kb4 bt4 ⊢
    have he := na4.ends
    rw [nums_map] at he
    have lm : lane ∈ N.ends := ok.en.mem_iff.mpr (List.mem_range.mpr sp.1)
    have il : N.ends.idxOf lane < S.came.length := by
      rw [os.cl, ← ends_len ok]
      exact List.idxOf_lt_length_of_mem lm
    refine ⟨_, rfl, r, _, 2, _, rfl, rfl, SqT.of na4.net, rfl, er, _, rfl, he, _, rfl, (lane : Int), rfl, he, List.mem_map.mpr ⟨lane, lm, rfl⟩, ?_⟩
    rw [idx_cast]
    have ec : S.came[N.ends.idxOf lane]? = some (S.came.getD (endN N lane) 0) := by
      rw [List.getElem?_eq_getElem il, List.getD_eq_getElem?_getD]
      show _ = some ((S.came[N.ends.idxOf lane]?).getD 0)
      rw [List.getElem?_eq_getElem il]; rfl
    have cm9 : S.came.getD (endN N lane) 0 ≤ 1000 := c9 _ (List.mem_of_getElem? ec)
    have l16 := ok.l16
    have eo : (nums S.came)[N.ends.idxOf lane]? = some (.int (S.came.getD (endN N lane) 0 : Nat)) := by unfold nums; rw [List.getElem?_map, ec]; rfl
    refine ⟨_, rfl, _, rfl, r, _, 0, _, rfl, rfl, SqT.of na4.net, rfl, _, rfl, A.d, .ref A.lo, rfl, kpt_o ▸ DGet.k (k := .inr "out") hd4, _, rfl, A.lo, _, _, _, rfl, rfl, SqL.of ho4, atI_nat eo, _, _, rfl, rfl, .inl ⟨by lia, by lia⟩, _, _, rfl, rfl, ?_⟩
    have ie : N.ends.idxOf lane = endN N lane := rfl
    rw [ie] at il eo ec
    refine ⟨_, rfl, A.d, .ref A.lo, rfl, kpt_o ▸ DGet.k (k := .inr "out") hd4, _, rfl, A.lo, _, _, _, rfl, rfl, SqL.of ho4, atI_nat eo, _, _, rfl, rfl, ?_⟩
    refine ⟨_, rfl, A.d, .ref A.lo, rfl, kpt_o ▸ DGet.k (k := .inr "out") hd4, _, rfl, A.lo, _, _, endN N lane, rfl, rfl, ho4, ix_at (by rw [nums_len]; exact il), ?_⟩
    have e1 : ((S.came.getD (endN N lane) 0 : Nat) : Int) + 1 = ((S.came.getD (endN N lane) 0 + 1 : Nat) : Int) := by lia
    dsimp only
    rw [e1, nums_set]
    have ev : ((N.ends.idxOf lane : Nat) : Int) + ((N.lanes : Nat) : Int) * ((S.came.getD (endN N lane) 0 : Nat) : Int) = ((endN N lane + N.lanes * S.came.getD (endN N lane) 0 : Nat) : Int) := by rw [Int.natCast_add, Int.natCast_mul]; rfl
    simp only [ev]
    have nd : A.d ≠ A.lo := ne_of hd4 ho4 (fun z => by cases z)
    have nb : A.db ≠ A.lo := ne_of hb4 ho4 (fun z => by cases z)
    have md : A.d ≠ A.lg := ne_of hd4 hg4 (fun z => by cases z)
    have mb : A.db ≠ A.lg := ne_of hb4 hg4 (fun z => by cases z)
    have tp5 : Tups H4 (L2.upd H4 A.lo (.lst (nums (S.came.set (endN N lane) (S.came.getD (endN N lane) 0 + 1))))) := Tups.lst ho4
    have bt5 : But5 A H (L2.upd H4 A.lo (.lst (nums (S.came.set (endN N lane) (S.came.getD (endN N lane) 0 + 1))))) := fun b o e m1 m2 m3 m4 m5 => by rw [upd_ne m3]; exact bt4 b o e m1 m2 m3 m4 m5
    have hd5 : L2.upd H4 A.lo (.lst (nums (S.came.set (endN N lane) (S.came.getD (endN N lane) 0 + 1)))) A.d = _ := (upd_ne nd).trans hd4
    have hb5 : L2.upd H4 A.lo (.lst (nums (S.came.set (endN N lane) (S.came.getD (endN N lane) 0 + 1)))) A.db = _ := (upd_ne nb).trans hb4
    have ho5 : L2.upd H4 A.lo (.lst (nums (S.came.set (endN N lane) (S.came.getD (endN N lane) 0 + 1)))) A.lo = _ := upd_same
    have hg5 : L2.upd H4 A.lo (.lst (nums (S.came.set (endN N lane) (S.came.getD (endN N lane) 0 + 1)))) A.lg = _ := (upd_ne ka.n2.symm).trans hg4
    have ht5 : L2.upd H4 A.lo (.lst (nums (S.came.set (endN N lane) (S.came.getD (endN N lane) 0 + 1)))) A.lt = _ := (upd_ne ka.n3.symm).trans ht4
    have kb5 := kb4.tups tp5
    generalize L2.upd H4 A.lo (.lst (nums (S.came.set (endN N lane) (S.came.getD (endN N lane) 0 + 1)))) = H5 at bt5 hd5 hb5 ho5 hg5 ht5 kb5 ⊢
    refine ⟨_, rfl, A.d, .ref A.lg, rfl, kpt_g ▸ DGet.k (k := .inr "given") hd5, .inl ⟨rfl, _, SqL.of hg5⟩, _, rfl, A.lg, _, _, rfl, rfl, hg5, by rw [nums_len, sizeLine_eq]; lia, ?_⟩
    have en : nums S.nms ++ [V.int ((endN N lane + N.lanes * S.came.getD (endN N lane) 0 : Nat) : Int)] = nums (S.nms ++ [endN N lane + N.lanes * S.came.getD (endN N lane) 0]) := by unfold nums; rw [List.map_append]; rfl
    rw [en]
    have tp6 := Tups.lst (ys := nums (S.nms ++ [endN N lane + N.lanes * S.came.getD (endN N lane) 0])) hg5
    refine ⟨_, rfl, ?_⟩
    have sl : (S.spots.set ball none).length = S.spots.length := List.length_set
    refine q1 kf _ ⟨?_, ⟨_, (upd_ne mb).trans hb5, kb5.tups tp6⟩, (upd_ne ka.n2).trans ho5, upd_same, (upd_ne ka.n4.symm).trans ht5, ka.n1, ka.n2, ka.n3, ka.n4⟩ fun b o e m1 m2 m3 m4 m5 => ?_
    · show L2.upd H5 A.lg _ A.d = some (.dK (kpt A ((S.spots.set ball none).length : Nat)))
      rw [sl]; exact (upd_ne md).trans hd5
    · rw [upd_ne m4]; exact bt5 b o e m1 m2 m3 m4 m5
  · have kl : k < N.forks.length := by lia
    obtain ⟨rs, er'⟩ := ln.2 kl
    dsimp only
    rw [er', decide_eq_false (by simp)]
    refine iteF ?_
    have h3' : H3 l = some (.lst (.int (k : Nat) :: nums rs)) := by
      rw [h3, er']; rfl
    have ks : k < S.sets.length := by rw [os.sl]; exact kl
    have at1 := nums_at' S.sets k ks
    have t2 : S.sets.getD k 0 < 2 := by
      rw [List.getD_eq_getElem?_getD, List.getElem?_eq_getElem ks]
      exact os.sv _ (List.getElem_mem ks)
    obtain ⟨g, fk, eg, ef, hg⟩ := na3.prs.get (i := k) (List.getElem?_eq_getElem (show k < ps.length by lia))
    have hat : ps[k]? = some (.ref g) := by rw [List.getElem?_eq_getElem (show k < ps.length by lia), eg]
    have eon : onT N S ball k = if S.sets.getD k 0 = 0 then fk.1 else fk.2 := by
      unfold onT
      rw [List.getD_eq_getElem?_getD (l := N.forks), ef]; rfl
    have at2 := two_at fk _ t2
    rw [← eon] at at2
    have on : onT N S ball k < N.lanes := (OkS.go (ball := ball) (k' := 0) ok os kl (Nat.zero_le _)).1
    refine ⟨_, rfl, l, _, _, _, rfl, rfl, SqL.of h3', (atI_nat (j := 0) rfl : atI _ ((0 : Nat) : Int) = _), ?_⟩
    refine ⟨_, rfl, r, _, 1, _, rfl, rfl, SqT.of na3.net, rfl, _, rfl, fr, _, _, _, rfl, rfl, SqT.of na3.forks, atI_nat hat, _, rfl, A.d, .ref A.lt, rfl, kpt_t ▸ DGet.k (k := .inr "turns") ka3.hd, _, rfl, A.lt, _, _, _, rfl, rfl, SqL.of ka3.ht, atI_nat at1, g, _, _, _, rfl, rfl, SqT.of hg, atI_nat at2, _, rfl, by show 2 ≤ sizeLine; decide, fun t4 ht4 => ?_⟩
    have s4 := same_new ht4 (.tup [.int (onT N S ball k : Nat), .int (k : Nat)])
    have u4 := u3.trans s4
    have ka4 := ka3.same s4
    have hb4 := s4 _ _ hb3
    have tt4 := atNew ht4 (.tup [.int (onT N S ball k : Nat), .int (k : Nat)])
    have kb4 := kb3.tups (Tups.of s4)
    generalize L2.upd H3 t4 (.tup [.int (onT N S ball k : Nat), .int (k : Nat)]) = H4 at s4 u4 ka4 hb4 tt4 kb4 ⊢
    obtain ⟨k', nk⟩ := next_ex N.forks (onT N S ball k) (k + 1) (by lia)
    have kb5 := kb4.go hs tt4 nk
    refine ⟨_, rfl, A.d, .ref A.db, rfl, kpt_b ▸ DGet.k (k := .inr "balls") ka4.hd, _, rfl, A.db, _, rfl, DPut.k (k := .inl (ball : Nat)) hb4 (by rw [sizeLine_eq]; lia), ?_⟩
    have tp5 : Tups H4 (L2.upd H4 A.db (.dK (putK kvs (.inl (ball : Nat)) (.ref t4)))) := fun b xs e => by rw [upd_ne (ne_of e hb4 (fun z => by cases z))]; exact e
    have ls5 : ∀ {b : Addr} {xs : List V}, H4 b = some (.lst xs) → L2.upd H4 A.db (.dK (putK kvs (.inl (ball : Nat)) (.ref t4))) b = some (.lst xs) := fun e => by rw [upd_ne (ne_of e hb4 (fun z => by cases z))]; exact e
    have hb5 : L2.upd H4 A.db (.dK (putK kvs (.inl (ball : Nat)) (.ref t4))) A.db = _ := upd_same
    have hd5 : L2.upd H4 A.db (.dK (putK kvs (.inl (ball : Nat)) (.ref t4))) A.d = some (.dK (kpt A (S.spots.length : Nat))) := by rw [upd_ne ka4.n1]; exact ka4.hd
    have ho5 := ls5 ka4.ho
    have hg5 := ls5 ka4.hg
    have ht5 := ls5 ka4.ht
    replace kb5 := kb5.tups tp5
    have bt5 : But5 A H (L2.upd H4 A.db (.dK (putK kvs (.inl (ball : Nat)) (.ref t4)))) := fun b o e m1 m2 _ _ _ => by rw [upd_ne m2]; exact u4 _ _ e
    generalize L2.upd H4 A.db (.dK (putK kvs (.inl (ball : Nat)) (.ref t4))) = H5 at hb5 hd5 ho5 hg5 ht5 kb5 bt5 ⊢
    refine ⟨_, rfl, A.d, .ref A.lt, rfl, kpt_t ▸ DGet.k (k := .inr "turns") hd5, _, rfl, A.lt, _, _, _, rfl, rfl, SqL.of ht5, atI_nat at1, _, _, rfl, rfl, ?_⟩
    refine ⟨_, rfl, A.d, .ref A.lt, rfl, kpt_t ▸ DGet.k (k := .inr "turns") hd5, _, rfl, A.lt, _, _, k, rfl, rfl, ht5, ix_at (by rw [nums_len]; exact ks), ?_⟩
    have e1 : (1 : Int) - ((S.sets.getD k 0 : Nat) : Int) = ((1 - S.sets.getD k 0 : Nat) : Int) := by lia
    dsimp only
    rw [e1, nums_set]
    have nd : A.d ≠ A.lt := ne_of hd5 ht5 (fun z => by cases z)
    have nb : A.db ≠ A.lt := ne_of hb5 ht5 (fun z => by cases z)
    have tp6 := Tups.lst (ys := nums (S.sets.set k (1 - S.sets.getD k 0))) ht5
    have sl : (S.spots.set ball (some (onT N S ball k, k'))).length = S.spots.length := List.length_set
    refine q2 kl k' _ nk ⟨?_, ⟨_, (upd_ne nb).trans hb5, kb5.tups tp6⟩, (upd_ne ka.n3).trans ho5, (upd_ne ka.n4).trans hg5, upd_same, ka.n1, ka.n2, ka.n3, ka.n4⟩ fun b o e m1 m2 m3 m4 m5 => ?_
    · show L2.upd H5 A.lt _ A.d = some (.dK (kpt A ((S.spots.set ball (some (onT N S ball k, k'))).length : Nat)))
      rw [sl]; exact (upd_ne nd).trans hd5
    · rw [upd_ne m5]; exact bt5 b o e m1 m2 m3 m4 m5
end
end K26
end
section
set_option maxHeartbeats 4000001
namespace K26
open PySem L2 Own Bn
abbrev sSame : Stmt := top 22
def Eq2 (H : Hp) : Nat → V → V → Prop
  | 0, x, y => x = y ∧ flatV x = true
  | n + 1, x, y => (x = y ∧ flatV x = true) ∨ ∃ a b xs ys, x = .ref a ∧ y = .ref b ∧ H a = some (.tup xs) ∧ H b = some (.tup ys) ∧ xs.length = ys.length ∧ xs.length ≤ 1000 ∧ ∀ (i : Nat) (u v : V), xs[i]? = some u → ys[i]? = some v → Eq2 H n u v
theorem Eq2.same {H H' : Hp} (s : Same H H') : ∀ {n : Nat} {x y : V}, Eq2 H n x y → Eq2 H' n x y
  | 0, _, _, h => h
  | n + 1, _, _, h => by
    rcases h with h | ⟨a, b, xs, ys, e1, e2, h1, h2, h3, h4, h5⟩
    · exact .inl h
    · exact .inr ⟨a, b, xs, ys, e1, e2, s _ _ h1, s _ _ h2, h3, h4, fun i u v p q => Eq2.same s (h5 i u v p q)⟩
theorem Eq2.flat {H : Hp} {n : Nat} {x : V} (h : flatV x = true) : Eq2 H n x x := by
  cases n
  · exact ⟨rfl, h⟩
  · exact .inl ⟨rfl, h⟩
def spSame (n : Nat) : Sp := fun vs H Q _ => ∃ x y, vs = [x, y] ∧ Eq2 H n x y ∧ ∀ H', Same H H' → Q (.bl true) H'
section
variable {P : Program} {w : World} {K : PySem.W.Frag} {mg : Str → Option Value} {base : Heap}
theorem scM : FnScope ["_law_found", "_law_due"] ["_law_found", "_law_due"] (defScope sSame) := ⟨rfl, rfl, rfl, by decide +kernel, rfl, by decide +kernel, by decide +kernel⟩
theorem nd2 : (["_law_one", "_law_other"] : List Str).Nodup := by decide +kernel
theorem ok_same1 {f : Addr} {fd : FuncData} (F : Fun K "_law_same" "_law_same" sSame f fd) (G : Mgs mg) (bS : Binds K fd ["_law_found", "_law_due"] []) (mS : mg "_law_same" = some (.ref f)) (n : Nat)
    (GS : FnOk P w K mg base CX0 n f fd ["_law_found", "_law_due"] (fun vs H Q E => ∃ m, n = m + 1 ∧ spSame m vs H Q E)) : FnOk P w K mg base CX0 (n + 1) f fd ["_law_found", "_law_due"] (spSame n) := by
    refine F.ok scM (fun vs H Q E h => ?_) (fun cdv A outer s H vs Q E hr h => ?_)
    · obtain ⟨x, y, rfl, _⟩ := h
      rfl
    obtain ⟨x, y, rfl, he, k⟩ := h
    refine ⟨_, pss_cons (ps_if (pt_val (pe_callB call_isi (by rfl) G.isi (by rfl) (pa_cons (pv 1) (pa_cons (pe_bltn (v := .ty "tuple") (u := .type "tuple") (by rfl) G.tuple (by rfl) rfl) pa_nil))))
        (pss_cons (ps_if (pw_or (pt_not (pt_val (pe_callB call_isi (by rfl) G.isi (by rfl) (pa_cons (pv 0) (pa_cons (pe_bltn (v := .ty "tuple") (u := .type "tuple") (by rfl) G.tuple (by rfl) rfl) pa_nil)))))
            (pw_or1 (pt_cmpR op_ne (pe_callB call_len_seq (by rfl) G.len PySem.boot_len (pa_cons (pv 0) pa_nil)) (pe_callB call_len_seq (by rfl) G.len PySem.boot_len (pa_cons (pv 1) pa_nil)) (nomark _)))).pt
            (pss_one (ps_ret pe_bl)) pss_nil)
          (pss_one (ps_ret (pe_callB (call_allB rfl true) (by rfl) G.all (by rfl) (pa_cons (pe_lc (o := none) (g := gTup K 2 (gCons (gName 0) (gCons (gName 1) gNil))) (N' := ["_law_one", "_law_other"]) (cap := [none, none]) rfl (pi_zip false false rfl G.zip (pa_cons (pv 0) (pa_cons (pv 1) pa_nil)))
            (CapOk.of (by kernel_rfl))
            (fun _ _ _ _ _ => pg_tup rfl (pgs_cons (pg_name (i := 0) nd2 rfl (Or.inl rfl) (Or.inr rfl)) (pgs_cons (pg_name (i := 1) nd2 rfl (Or.inl rfl) (Or.inr rfl)) pgs_nil)))
            (fun _ _ _ _ _ => pt_none)
            (fun _ _ _ _ _ => pe_call GS hr rfl mS F.kp bS .nil pass0 (pa_cons (pv 0) (pa_cons (pv 1) pa_nil)))) pa_nil)))))
        pss_nil)
      (pss_cons (ps_if (pt_cmpR op_isN (pv 1) pe_non (by rfl)) (pss_one (ps_ret (pe_cmpR op_isN (pv 0) pe_non (by rfl)))) pss_nil)
      (pss_cons (ps_if (pw_or (pt_val (pe_callB call_isi (by rfl) G.isi (by rfl) (pa_cons (pv 1) (pa_cons (pe_bltn (v := .ty "bool") (u := .type "bool") (by rfl) G.bool (by rfl) rfl) pa_nil))))
          (pw_or1 (pt_val (pe_callB call_isi (by rfl) G.isi (by rfl) (pa_cons (pv 0) (pa_cons (pe_bltn (v := .ty "bool") (u := .type "bool") (by rfl) G.bool (by rfl) rfl) pa_nil)))))).pt
          (pss_one (ps_ret (pe_and (pe_callB call_isi (by rfl) G.isi (by rfl) (pa_cons (pv 1) (pa_cons (pe_bltn (v := .ty "bool") (u := .type "bool") (by rfl) G.bool (by rfl) rfl) pa_nil)))
            (pe_and (pe_callB call_isi (by rfl) G.isi (by rfl) (pa_cons (pv 0) (pa_cons (pe_bltn (v := .ty "bool") (u := .type "bool") (by rfl) G.bool (by rfl) rfl) pa_nil))) (pe_one (pe_cmpR op_eq (pv 0) (pv 1) (nomark _))))))) pss_nil)
      (pss_cons (ps_if (pt_val (pe_callB call_isi (by rfl) G.isi (by rfl) (pa_cons (pv 1) (pa_cons (pe_bltn (v := .ty "str") (u := .type "str") (by rfl) G.str (by rfl) rfl) pa_nil))))
          (pss_one (ps_ret (pe_and (pe_callB call_isi (by rfl) G.isi (by rfl) (pa_cons (pv 0) (pa_cons (pe_bltn (v := .ty "str") (u := .type "str") (by rfl) G.str (by rfl) rfl) pa_nil))) (pe_one (pe_cmpR op_eq (pv 0) (pv 1) (nomark _)))))) pss_nil)
      (pss_one (ps_ret (pe_and (pe_callB call_isi (by rfl) G.isi (by rfl) (pa_cons (pv 0) (pa_cons (pe_bltn (v := .ty "int") (u := .type "int") (by rfl) G.int (by rfl) rfl) pa_nil))) (pe_one (pe_cmpR op_eq (pv 0) (pv 1) (nomark _))))))))), ?_⟩
    have flat : (x = y ∧ flatV x = true) ∨ ∃ m, n = m + 1 ∧ ∃ a b xs ys, x = .ref a ∧ y = .ref b ∧ H a = some (.tup xs) ∧ H b = some (.tup ys) ∧ xs.length = ys.length ∧ xs.length ≤ 1000 ∧ ∀ (i : Nat) (u v : V), xs[i]? = some u → ys[i]? = some v → Eq2 H m u v := by
      cases n with
      | zero => exact .inl he
      | succ m =>
        rcases he with he | he
        · exact .inl he
        · exact .inr ⟨m, rfl, he⟩
    rcases flat with ⟨rfl, fl⟩ | ⟨m, rfl, a, b, xs, ys, rfl, rfl, ha, hb, hl, h1000, hxy⟩
    · cases x with
      | non => exact ⟨_, rfl, _, "tuple", _, false, rfl, .non, rfl, _, rfl, iteF ⟨_, rfl, rfl, _, rfl, iteT ⟨_, rfl, rfl, k H (Same.refl H)⟩⟩⟩
      | bl c =>
        refine ⟨_, rfl, _, "tuple", _, false, rfl, .bl c, rfl, _, rfl, iteF ⟨_, rfl, rfl, _, rfl, iteF ⟨_, rfl, _, "bool", _, true, rfl, .bl c, rfl, _, rfl, iteT (iteT ?_)⟩⟩⟩
        refine ⟨_, rfl, _, "bool", _, true, rfl, .bl c, rfl, _, rfl, iteT ⟨_, rfl, _, "bool", _, true, rfl, .bl c, rfl, _, rfl, iteT ⟨_, rfl, _, rfl, rfl, ?_⟩⟩⟩
        rw [decide_eq_true rfl]; exact k H (Same.refl H)
      | int i =>
        refine ⟨_, rfl, _, "tuple", _, false, rfl, .int i, rfl, _, rfl, iteF ⟨_, rfl, rfl, _, rfl, iteF ⟨_, rfl, _, "bool", _, false, rfl, .int i, rfl, _, rfl, iteF ⟨_, rfl, _, "bool", _, false, rfl, .int i, rfl, _, rfl, iteF ?_⟩⟩⟩⟩
        refine ⟨_, rfl, _, "str", _, false, rfl, .int i, rfl, _, rfl, iteF ⟨_, rfl, _, "int", _, true, rfl, .int i, rfl, _, rfl, iteT ⟨_, rfl, _, rfl, rfl, ?_⟩⟩⟩
        rw [decide_eq_true rfl]; exact k H (Same.refl H)
      | str z =>
        refine ⟨_, rfl, _, "tuple", _, false, rfl, .str z, rfl, _, rfl, iteF ⟨_, rfl, rfl, _, rfl, iteF ⟨_, rfl, _, "bool", _, false, rfl, .str z, rfl, _, rfl, iteF ⟨_, rfl, _, "bool", _, false, rfl, .str z, rfl, _, rfl, iteF ?_⟩⟩⟩⟩
        refine ⟨_, rfl, _, "str", _, true, rfl, .str z, rfl, _, rfl, iteT ⟨_, rfl, _, "str", _, true, rfl, .str z, rfl, _, rfl, iteT ⟨_, rfl, _, rfl, rfl, ?_⟩⟩⟩
        rw [decide_eq_true rfl]; exact k H (Same.refl H)
      | byt _ => cases fl
      | flt _ => cases fl
      | ref _ => cases fl
      | ty _ => cases fl
    · refine ⟨_, rfl, _, "tuple", _, true, rfl, .tup hb, rfl, _, rfl, iteT ?_⟩
      refine ⟨_, rfl, _, "tuple", _, true, rfl, .tup ha, rfl, _, rfl, iteF ?_⟩
      refine ⟨_, rfl, a, _, rfl, .inr (SqT.of ha), _, rfl, b, _, rfl, .inr (SqT.of hb), rfl, _, rfl, ?_⟩
      refine iteNS (by rw [hl]) ?_
      refine ⟨_, rfl, _, rfl, a, b, xs, ys, rfl, SqT.of ha, SqT.of hb, fun l hl0 => ?_⟩
      refine lc_zip (K := K) (b1 := false) (b2 := false) hl (fun i acc σ H' => acc = List.map V.bl (List.replicate i true) ∧ (∃ u v, σ = [u, v]) ∧ Same H H' ∧ H' l = some (.lst acc)) ⟨rfl, ⟨none, none, rfl⟩, same_new hl0 _, upd_same⟩
        (fun i acc σ H' p => ⟨p.2.2.2, SqT.of (p.2.2.1 _ _ ha), SqT.of (p.2.2.1 _ _ hb)⟩) ?_ ?_
      · rintro i acc σ H' u v T hu hv hT ⟨rfl, ⟨p, q, rfl⟩, hS, hL⟩
        have hi : i < xs.length := (List.getElem?_eq_some_iff.mp hu).1
        have sT : Same H (upd H' T (.tup [u, v])) := hS.trans (same_new hT _)
        refine ⟨T, _, rfl, SqT.of upd_same, rfl, _, _, rfl, _, _, rfl, rfl, ?_⟩
        refine ⟨_, rfl, _, rfl, m, rfl, u, v, rfl, (hxy i u v hu hv).same sT, fun H5 s5 => ⟨?_, ?_, nx hi ⟨?_, ⟨_, _, rfl⟩, fun b o e => ?_, upd_same⟩⟩⟩
        · exact s5 _ _ (by rw [upd_ne (ne_of_none hL hT)]; exact hL)
        · rw [List.length_map, List.length_replicate]; exact small1000 (by lia)
        · rw [List.replicate_succ', List.map_append]; rfl
        · rw [upd_ne (ne_of_none e hl0)]; exact s5 _ _ (sT b o e)
      · rintro acc σ H' ⟨rfl, _, hS, hL⟩
        refine ⟨l, List.replicate xs.length true, rfl, SqL.of hL, ?_⟩
        have e : (List.replicate xs.length true).all id = true := by
          rw [List.all_eq_true]; intro z hz; rw [List.eq_of_mem_replicate hz]; rfl
        rw [e]; exact k H' hS
theorem ok_same {f : Addr} {fd : FuncData} (F : Fun K "_law_same" "_law_same" sSame f fd) (G : Mgs mg) (bS : Binds K fd ["_law_found", "_law_due"] []) (mS : mg "_law_same" = some (.ref f)) : ∀ n : Nat, FnOk P w K mg base CX0 (n + 1) f fd ["_law_found", "_law_due"] (spSame n)
  | 0 => ok_same1 F G bS mS 0 ⟨fun vs H Q E ⟨m, h, _⟩ => by lia, fun A outer s H args us vs Q E _ _ _ _ ⟨m, h, _⟩ => by lia⟩
  | m + 1 => ok_same1 F G bS mS (m + 1) ((ok_same F G bS mS m).imp fun vs H Q E ⟨m', h, q⟩ => by cases h; exact q)
end
end K26
end
section
set_option maxHeartbeats 4000001
namespace K26
open PySem L2 Own Bn
abbrev sTake : Stmt := top 17
structure StAt (H : Hp) (l : Addr) (n : Nat) : Prop where
  ex : ∃ a b c : Int, H l = some (.lst [.int a, .int b, .int c]) ∧ 0 ≤ a ∧ 0 ≤ b ∧ b < 2 ^ 62 ∧ 0 ≤ c ∧ c ≤ n
theorem StAt.mono {H : Hp} {l : Addr} {n m : Nat} (h : StAt H l n) (k : n ≤ m) : StAt H l m := by
  obtain ⟨a, b, c, h1, h2, h3, h4, h5, h6⟩ := h.ex
  exact ⟨a, b, c, h1, h2, h3, h4, h5, by lia⟩
def spTake (_K : PySem.W.Frag) : Sp := fun vs H Q _ => ∃ (l : Addr) (m : Int) (n : Nat), vs = [.ref l, .int m] ∧ 0 < m ∧ m < 1073741824 ∧ StAt H l n ∧ n < 2 ^ 60 ∧
  ∀ v H', 0 ≤ v → v < m → StAt H' l (n + 1) → But l H H' → Q (.int v) H'
section
variable {P : Program} {w : World} {K : PySem.W.Frag} {mg : Str → Option Value} {base : Heap}
theorem scT : FnScope ["_law_state", "_law_many", "_law_digit", "_law_mixed"] ["_law_state", "_law_many"] (defScope sTake) := ⟨rfl, rfl, rfl, by decide +kernel, rfl, by decide +kernel, by decide +kernel⟩
theorem ok_take {f : Addr} {fd : FuncData} (F : Fun K "_law_take" "_law_take" sTake f fd) : FnOk P w K mg base CX0 1 f fd ["_law_state", "_law_many"] (spTake K) := by
  refine F.ok scT (fun vs H Q E h => ?_) (fun cdv A outer s H vs Q E hr h => ?_)
  · obtain ⟨l, m, n, rfl, _⟩ := h
    rfl
  · obtain ⟨l, m, n, rfl, m0, m1, S, hn, k⟩ := h
    obtain ⟨a, b, c, hl, ha, hb, hb2, hc, hcn⟩ := S.ex
    refine ⟨_, pss_cons (ps_if (pt_cmpR op_gt (pe_ix ix_list (pv 0) pe_int (fun _ _ => rfl)) pe_int (nomark _))
        (pss_cons (ps_set (i := 2) scT.nd rfl (Or.inl rfl) (pe_op op_mod (pe_ix ix_list (pv 0) pe_int (fun _ _ => rfl)) (pv 1)))
        (pss_cons (ps_asg (pe_op op_fdiv (pe_ix ix_list (pv 0) pe_int (fun _ _ => rfl)) (pv 1)) (pg_sub (pv 0) pe_int set_list))
        (pss_one (ps_ret (pv 2))))) pss_nil)
      (pss_cons (ps_asg (pe_op op_add (pe_ix ix_list (pv 0) pe_int (fun _ _ => rfl)) pe_int) (pg_sub (pv 0) pe_int set_list))
      (pss_cons (ps_set (i := 3) scT.nd rfl (Or.inl rfl) (pe_op op_mod (pe_op op_mul (pe_op op_add (pe_op op_add (pe_ix ix_list (pv 0) pe_int (fun _ _ => rfl)) (pe_op op_mul (pe_op op_mul pe_int (pe_ix ix_list (pv 0) pe_int (fun _ _ => rfl))) (pe_ix ix_list (pv 0) pe_int (fun _ _ => rfl)))) pe_int) pe_int) pe_int))
      (pss_cons (ps_set (i := 3) scT.nd rfl (Or.inl rfl) (pe_op op_mod (pe_op op_mul (pv 3) (pe_op op_add (pe_op op_mod (pv 3) pe_int) (pe_op op_mul pe_int (pe_ix ix_list (pv 0) pe_int (fun _ _ => rfl))))) pe_int))
      (pss_one (ps_ret (pe_op op_mod (pe_op op_add (pe_op op_fdiv (pv 3) pe_int) (pe_op op_fdiv (pv 3) pe_int)) (pv 1))))))), ?_⟩
    refine ⟨_, rfl, l, _, _, _, rfl, rfl, SqL.of hl, rfl, _, _, rfl, rfl, _, rfl, ?_⟩
    refine ite2 (fun q => ?_) (fun q => ?_)
    · refine ⟨_, rfl, l, _, _, _, rfl, rfl, SqL.of hl, rfl, _, rfl, _, _, rfl, rfl, m0, ?_⟩
      refine ⟨_, rfl, l, _, _, _, rfl, rfl, SqL.of hl, rfl, _, rfl, _, _, rfl, rfl, ⟨m0, m1⟩, _, rfl, l, _, _, 0, rfl, rfl, hl, rfl, _, rfl, ?_⟩
      refine k _ _ (Int.emod_nonneg _ (by lia)) (Int.emod_lt_of_pos _ m0) ⟨a / m, b, c, upd_same, Int.ediv_nonneg ha (by lia), hb, hb2, hc, by lia⟩ fun x o e ne => ?_
      rw [upd_ne ne]; exact e
    · refine ⟨_, rfl, l, _, _, _, rfl, rfl, SqL.of hl, rfl, _, _, rfl, rfl, _, rfl, l, _, _, 2, rfl, rfl, hl, rfl, ?_⟩
      generalize hH : upd H l (HO.lst ([V.int a, V.int b, V.int c].set 2 (V.int (c + 1)))) = H1
      have h1 : H1 l = some (.lst [.int a, .int b, .int (c + 1)]) := by rw [← hH]; exact upd_same
      have sm : (-(2 ^ 64) : Int) < c + 1 ∧ c + 1 < 2 ^ 64 := ⟨by lia, by lia⟩
      refine ⟨_, rfl, l, _, _, _, rfl, rfl, SqL.of h1, rfl, _, rfl, l, _, _, _, rfl, rfl, SqL.of h1, rfl, _, _, rfl, rfl, .inl ⟨by decide, by decide⟩, _, rfl, l, _, _, _, rfl, rfl, SqL.of h1, rfl, _, _, rfl, rfl, .inr sm, _, _, rfl, rfl, _, _, rfl, rfl, _, _, rfl, rfl, .inr ⟨by decide, by decide⟩, _, _, rfl, rfl, (by show (0 : Int) < 2305843009213693921; decide), ?_⟩
      generalize hx : (b + 65537 * (c + 1) * (c + 1) + 11) * 48271 % 2305843009213693921 = x
      have x0 : 0 ≤ x := by rw [← hx]; exact Int.emod_nonneg _ (by decide)
      have x1 : x < 2305843009213693921 := by rw [← hx]; exact Int.emod_lt_of_pos _ (by decide)
      refine ⟨_, rfl, _, rfl, _, _, rfl, rfl, (by show (0 : Int) < 1000003; decide), _, rfl, l, _, _, _, rfl, rfl, SqL.of h1, rfl, _, _, rfl, rfl, .inl ⟨by decide, by decide⟩, _, _, rfl, rfl, _, _, rfl, rfl, .inl ⟨by lia, by lia⟩, _, _, rfl, rfl, (by show (0 : Int) < 2305843009213693907; decide), ?_⟩
      refine ⟨_, rfl, _, _, rfl, rfl, ⟨by decide, by decide⟩, _, rfl, _, _, rfl, rfl, ⟨by decide, by decide⟩, _, _, rfl, rfl, _, rfl, _, _, rfl, rfl, m0, ?_⟩
      refine k _ _ (Int.emod_nonneg _ (by lia)) (Int.emod_lt_of_pos _ m0) ⟨a, b, c + 1, h1, ha, hb, hb2, by lia, by lia⟩ fun y o e ne => ?_
      rw [← hH, upd_ne ne]; exact e
end
end K26
end
section
set_option maxHeartbeats 4000001
namespace L2
open PySem PySem.Spec PyProof.Rows Own Ts PySem.W
section
variable {X : Cx}
theorem key_int {i : Int} {v : Value} (h : keyIs (Sum.inl i) v = true) : ∃ t, v = .int i t := by
  rcases keyIs_shape h with ⟨j, t, e, rfl⟩ | ⟨x, t, e, _⟩
  · obtain rfl := Sum.inl.inj e
    exact ⟨t, rfl⟩
  · cases e
def numV : V → Int
  | .int i => i
  | _ => 0
theorem numV_ints : ∀ {ys : List V} {ns : List Int}, ys.Perm (ns.map V.int) → ys = (ys.map numV).map V.int ∧ (ys.map numV).Perm ns := fun {ys ns} pm => by
  refine ⟨?_, ?_⟩
  · rw [List.map_map]
    refine ((List.map_id ys).symm.trans (List.map_congr_left fun y hy => ?_))
    obtain ⟨i, _, rfl⟩ := List.mem_map.mp (pm.mem_iff.mp hy)
    rfl
  · have := pm.map numV
    rw [List.map_map] at this
    exact this.trans (List.Perm.of_eq ((List.map_congr_left fun i _ => rfl).trans (List.map_id ns)))
theorem vals_keys : ∀ {ns : List Int} {l : List Value}, l.length = ns.length → (∀ (j : Nat) (v : Value) (n : Int), l[j]? = some v → ns[j]? = some n → ∃ t, v = Value.int n t) → Vals (ns.map V.int) l
  | [], [], _, _ => .nil
  | n :: ns, v :: l, hl, h => by
    refine .cons (h 0 v n rfl rfl) (vals_keys (by simpa using hl) fun j v' n' h1 h2 => h (j + 1) v' n' (by simpa using h1) (by simpa using h2))
theorem call_sortedD (hc : X.calm = true) (hu : X.A.units + 64 < cLine) : CallR X (.builtin "sorted") (fun vs H Q => ∃ a, ∃ kvs : List (Key × V), ∃ ns : List Int, vs = [.ref a] ∧ H a = some (.dK kvs) ∧ kvs.map (·.1) = ns.map Sum.inl ∧ kvs.length ≤ 63 ∧ ∀ (l : Addr) (ms : List Int), H l = none → ms.Perm ns → ms.Pairwise (· ≤ ·) → Q (.ref l) (upd H l (.lst (ms.map V.int)))) := by
  intro pins s σ H vs us Q I rv h
  obtain ⟨a, kvs, ns, rfl, hd, hk, hz, q⟩ := h
  obtain ⟨u, rfl, ru⟩ := rv.one
  cases ru
  obtain ⟨z, hS, ws, kv, dd⟩ := dk_of I.hok hd
  obtain ⟨ep, hat⟩ := dd.dictAt
  have wl : ws.length = kvs.length := kv.length.symm
  refine sortedC (kdu_collect (kdl_dict hS) (I.ok.hd hc) hat (by rw [wl]; exact z) fun h1 tk acc k1 hacc => ?_)
  obtain ⟨a1, a2⟩ := hacc
  have al : acc.toList.length = ns.length := by
    have := congrArg List.length hk
    rw [List.length_map, List.length_map] at this
    rw [Array.length_toList, a1, wl, this]
  have vs : Vals (ns.map V.int) acc.toList := vals_keys al fun j v n h2 h3 => by
    obtain ⟨k', x', e1, e2⟩ := a2 j v (by rw [← Array.getElem?_toList]; exact h2)
    have ek := kv.keys
    rw [hk] at ek
    have : (ns.map Sum.inl : List Key)[j]? = some k' := by rw [ek, List.getElem?_map, e1]; rfl
    rw [List.getElem?_map, h3] at this
    have ek' : (Sum.inl n : Key) = k' := Option.some.inj this
    rw [← ek'] at e2
    exact key_int e2
  have R : Rk H (ns.map V.int) numV := .inl fun x hx => by
    obtain ⟨i, _, rfl⟩ := List.mem_map.mp hx
    exact ⟨i, rfl, rfl⟩
  have I1 : Inv X pins σ H { s with heap := h1, toks := tk } := I.kept k1
  obtain ⟨κ, hk', hc'⟩ := asks I1 hu vs R
  refine ⟨κ, fun u => numV (vOf u), by rw [al]; have := congrArg List.length hk; rw [List.length_map, List.length_map] at this; lia, hk', hc', fun h' l e out lo eo pm so kk => ?_⟩
  obtain ⟨ex, rel⟩ := vals_of vs R.kinds
  have vo : Vals (out.map vOf) out := vals_back fun u hu => rel u (pm.mem_iff.mp hu)
  have pv : (out.map vOf).Perm (ns.map V.int) := by rw [ex]; exact pm.map vOf
  obtain ⟨n1, n2⟩ := numV_ints pv
  have ol : out.length = ns.length := by rw [pm.length_eq, al]
  refine ⟨.ref l, _, I1.laid (t' := tk) (o := .lst (out.map vOf)) (fun c o q => kk c o q) lo ⟨?_, out, e, vo, eo⟩, rfl, ?_⟩
  · rw [List.length_map, ol, ← al, Array.length_toList, a1, wl]; exact z
  · rw [n1]
    refine q l _ (I1.hok.fresh lo) n2 ?_
    rw [List.map_map]
    exact List.pairwise_map.mpr so
end
end L2
end
section
set_option maxHeartbeats 4000001
namespace K26
open PySem L2 Own Bn
abbrev sTold : Stmt := top 24
def mineA (A : Tad) : List Addr := [A.ls, A.lp, A.lc, A.ln]
def mineB (B : KAd) : List Addr := [B.d, B.db, B.lo, B.lg, B.lt]
def ButM (L : List Addr) (H H' : Hp) : Prop := ∀ b o, H b = some o → b ∉ L → H' b = some o
def Mut (H : Hp) (x : Addr) : Prop := ∃ o, H x = some o ∧ ((∃ xs, o = .lst xs) ∨ (∃ kvs, o = .dK kvs) ∨ ∃ q, o = .tbl q)
theorem ButM.same {L : List Addr} {H H' : Hp} (s : Same H H') : ButM L H H' := fun b o e _ => s b o e
theorem ButM.trans {L : List Addr} {H H' H'' : Hp} (h : ButM L H H') (g : ButM L H' H'') : ButM L H H'' := fun b o e n => g b o (h b o e n) n
theorem ButM.of4 {A : Tad} {H H' : Hp} (h : But4 A H H') : ButM (mineA A) H H' := fun b o e n =>
  h b o e (fun z => n (z ▸ .head _)) (fun z => n (z ▸ .tail _ (.head _))) (fun z => n (z ▸ .tail _ (.tail _ (.head _)))) (fun z => n (z ▸ .tail _ (.tail _ (.tail _ (.head _)))))
theorem ButM.of5 {B : KAd} {H H' : Hp} (h : But5 B H H') : ButM (mineB B) H H' := fun b o e n =>
  h b o e (fun z => n (z ▸ .head _)) (fun z => n (z ▸ .tail _ (.head _))) (fun z => n (z ▸ .tail _ (.tail _ (.head _)))) (fun z => n (z ▸ .tail _ (.tail _ (.tail _ (.head _))))) (fun z => n (z ▸ .tail _ (.tail _ (.tail _ (.tail _ (.head _))))))
theorem ButM.one {l : Addr} {H H' : Hp} (h : But l H H') : ButM [l] H H' := fun b o e n => h b o e fun z => n (z ▸ .head _)
theorem ButM.tups {L : List Addr} {H H' : Hp} (h : ButM L H H') (m : ∀ x ∈ L, Mut H x) : Tups H H' := fun b xs e => h b _ e fun z => by
  obtain ⟨o, h1, h2⟩ := m b z
  rw [e] at h1
  rcases h2 with ⟨ys, rfl⟩ | ⟨ys, rfl⟩ | ⟨ys, rfl⟩ <;> cases h1
theorem tel_mut {C : Addr} {H : Hp} {A : Tad} {N : Nt} {S : Tst} (T : TelAt C H A N S) : ∀ x ∈ mineA A, Mut H x := by
  obtain ⟨sp, h1, _⟩ := T.hp
  intro x hx
  unfold mineA at hx
  simp only [List.mem_cons, List.mem_nil_iff, or_false] at hx
  rcases hx with rfl | rfl | rfl | rfl
  · exact ⟨_, T.hs, .inl ⟨_, rfl⟩⟩
  · exact ⟨_, h1, .inl ⟨_, rfl⟩⟩
  · exact ⟨_, T.hc, .inl ⟨_, rfl⟩⟩
  · exact ⟨_, T.hn, .inl ⟨_, rfl⟩⟩
theorem KeptAt.mut {H : Hp} {B : KAd} {N : Nt} {S : Tst} (T : KeptAt H B N S) : ∀ x ∈ mineB B, Mut H x := by
  obtain ⟨sp, h1, _⟩ := T.hb
  intro x hx
  unfold mineB at hx
  simp only [List.mem_cons, List.mem_nil_iff, or_false] at hx
  rcases hx with rfl | rfl | rfl | rfl | rfl
  · exact ⟨_, T.hd, .inr (.inl ⟨_, rfl⟩)⟩
  · exact ⟨_, h1, .inr (.inl ⟨_, rfl⟩)⟩
  · exact ⟨_, T.ho, .inl ⟨_, rfl⟩⟩
  · exact ⟨_, T.hg, .inl ⟨_, rfl⟩⟩
  · exact ⟨_, T.ht, .inl ⟨_, rfl⟩⟩
theorem StAt.mut {H : Hp} {l : Addr} {n : Nat} (S : StAt H l n) : ∀ x ∈ [l], Mut H x := fun x hx => by
  obtain ⟨a, b, c, h, _⟩ := S.ex
  rw [List.mem_singleton.mp hx]
  exact ⟨_, h, .inl ⟨_, rfl⟩⟩
theorem tel_butM {C : Addr} {H H' : Hp} {A : Tad} {N : Nt} {S : Tst} {L : List Addr} (T : TelAt C H A N S) (b : ButM L H H') (m : ∀ x ∈ L, Mut H x) (n : ∀ x ∈ mineA A, x ∉ L) : TelAt C H' A N S := by
  obtain ⟨dx, e⟩ := T.ob
  obtain ⟨sp, h1, h2⟩ := T.hp
  have t := b.tups m
  refine ⟨⟨dx, b _ _ e fun z => ?_⟩, T.na.tups t, b _ _ T.hs (n _ (.head _)), ⟨sp, b _ _ h1 (n _ (.tail _ (.head _))), h2.tups t⟩, b _ _ T.hc (n _ (.tail _ (.tail _ (.head _)))), b _ _ T.hn (n _ (.tail _ (.tail _ (.tail _ (.head _))))), T.d1, T.d2, T.d3, T.d4, T.d5, T.d6⟩
  obtain ⟨o, g1, g2⟩ := m _ z
  rw [e] at g1
  rcases g2 with ⟨ys, rfl⟩ | ⟨ys, rfl⟩ | ⟨ys, rfl⟩ <;> cases g1
theorem KeptAt.butM {H H' : Hp} {B : KAd} {N : Nt} {S : Tst} {L : List Addr} (T : KeptAt H B N S) (b : ButM L H H') (m : ∀ x ∈ L, Mut H x) (n : ∀ x ∈ mineB B, x ∉ L) : KeptAt H' B N S := by
  obtain ⟨kvs, h1, h2⟩ := T.hb
  exact ⟨b _ _ T.hd (n _ (.head _)), ⟨kvs, b _ _ h1 (n _ (.tail _ (.head _))), h2.tups (b.tups m)⟩, b _ _ T.ho (n _ (.tail _ (.tail _ (.head _)))), b _ _ T.hg (n _ (.tail _ (.tail _ (.tail _ (.head _))))), b _ _ T.ht (n _ (.tail _ (.tail _ (.tail _ (.tail _ (.head _)))))), T.n1, T.n2, T.n3, T.n4⟩
theorem StAt.butM {H H' : Hp} {l : Addr} {n : Nat} {L : List Addr} (S : StAt H l n) (b : ButM L H H') (h : l ∉ L) : StAt H' l n := by
  obtain ⟨x, y, z, e, r⟩ := S.ex
  exact ⟨x, y, z, b _ _ e h, r⟩
structure Duo (C : Addr) (H : Hp) (A : Tad) (B : KAd) (N : Nt) (S : Tst) : Prop where
  te : TelAt C H A N S
  ka : KeptAt H B N S
  os : OkS N S
  ap : ∀ x ∈ mineA A, x ∉ mineB B
theorem Duo.keep {C : Addr} {H H' : Hp} {A : Tad} {B : KAd} {N : Nt} {S : Tst} (d : Duo C H A B N S) (s : Same H H') : Duo C H' A B N S := ⟨d.te.keep s, d.ka.same s, d.os, d.ap⟩
theorem Duo.butM {C : Addr} {H H' : Hp} {A : Tad} {B : KAd} {N : Nt} {S : Tst} {L : List Addr} (d : Duo C H A B N S) (b : ButM L H H') (m : ∀ x ∈ L, Mut H x) (n : ∀ x ∈ mineA A ++ mineB B, x ∉ L) : Duo C H' A B N S :=
  ⟨tel_butM d.te b m fun x hx => n x (List.mem_append.mpr (.inl hx)), d.ka.butM b m fun x hx => n x (List.mem_append.mpr (.inr hx)), d.os, d.ap⟩
structure Few (S : Tst) (j : Nat) : Prop where
  f1 : S.spots.length ≤ j
  f2 : S.nms.length ≤ j
  f3 : ∀ x ∈ S.came, x ≤ j
theorem way_sorted (os : List (Option (Nat × Nat))) : (wayL os).Pairwise (· ≤ ·) := by
  unfold wayL
  exact List.Pairwise.filter _ (List.pairwise_lt_range.imp Nat.le_of_lt)
theorem casts {ms : List Int} {ns : List Nat} (h : ms.Perm (ns.map fun (n : Nat) => (n : Int))) (s : ms.Pairwise (· ≤ ·)) (t : ns.Pairwise (· ≤ ·)) : ms.map V.int = nums ns := by
  have g : ms = (ms.map Int.toNat).map fun (n : Nat) => (n : Int) := by
    rw [List.map_map]
    refine (List.map_id ms).symm.trans (List.map_congr_left fun x hx => ?_)
    obtain ⟨n, _, rfl⟩ := List.mem_map.mp (h.mem_iff.mp hx)
    rfl
  have p : (ms.map Int.toNat).Perm ns := by
    have := h.map Int.toNat
    rw [List.map_map] at this
    exact this.trans (List.Perm.of_eq ((List.map_congr_left fun i _ => rfl).trans (List.map_id ns)))
  have q : (ms.map Int.toNat).Pairwise (· ≤ ·) := List.pairwise_map.mpr (s.imp fun {a b} z => by lia)
  rw [← nat_unique p q t]
  conv => lhs; rw [g]
  unfold nums
  rw [List.map_map]; rfl
def ToldIs (H : Hp) (p : Addr) (S : Tst) : Prop := ∃ p1 p2 p3 ms, H p = some (.tup [.ref p1, .ref p2, .ref p3]) ∧ H p1 = some (.tup (nums (wayL S.spots))) ∧ ms.Perm S.nms ∧ ms.Pairwise (· ≤ ·) ∧ H p2 = some (.tup (nums ms)) ∧ H p3 = some (.tup (nums S.sets))
theorem ToldIs.keep {H H' : Hp} {p : Addr} {S : Tst} (t : ToldIs H p S) (s : Tups H H') : ToldIs H' p S := by
  obtain ⟨p1, p2, p3, ms, h, h1, pm, so, h2, h3⟩ := t
  exact ⟨p1, p2, p3, ms, s _ _ h, s _ _ h1, pm, so, s _ _ h2, s _ _ h3⟩
theorem row_eq {K : PySem.W.Frag} {H : Hp} {a b : Addr} {ns : List Nat} (h1 : H a = some (.tup (nums ns))) (h2 : H b = some (.tup (nums ns))) : DEq K H 2 (.ref a) (.ref b) :=
  .inr ⟨a, b, _, _, rfl, rfl, SqT.of h1, SqT.of h2, rfl, fun i u v p q => by
    rw [p] at q
    obtain rfl := Option.some.inj q
    unfold nums at p
    rw [List.getElem?_map] at p
    cases e : ns[i]? with
    | none => rw [e] at p; cases p
    | some n => rw [e] at p; obtain rfl := Option.some.inj p; exact .inl ⟨rfl, rfl⟩⟩
theorem told_same {K : PySem.W.Frag} {H : Hp} {p q : Addr} {S : Tst} {c : Bool} {Q : VK} (t : ToldIs H p S) (u : ToldIs H q S) (k : Q (.bl c) H) : rSameD K c (.ref p) (.ref q) H Q := by
  obtain ⟨p1, p2, p3, ms, h, h1, pm, so, h2, h3⟩ := t
  obtain ⟨q1, q2, q3, ns, g, g1, qm, qo, g2, g3⟩ := u
  obtain rfl := nat_unique (pm.trans qm.symm) so qo
  refine ⟨2, p, q, _, _, by decide, rfl, rfl, SqT.of h, SqT.of g, rfl, fun i u v e1 e2 => ?_, k⟩
  rcases i with _ | _ | _ | i
  · cases e1; cases e2; exact row_eq h1 g1
  · cases e1; cases e2; exact row_eq h2 g2
  · cases e1; cases e2; exact row_eq h3 g3
  · cases e1
def spTold (C : Addr) : Sp := fun vs H Q _ => ∃ (A : Tad) (N : Nt) (S : Tst), vs = [.ref A.t] ∧ TelAt C H A N S ∧ Few S 60 ∧ ∀ p H', Same H H' → ToldIs H' p S → Q (.ref p) H'
theorem no_w {n s p c u : Addr} : (flds5 n s p c u).lookup ("way" : Str) = none := fl_no (by decide +kernel) (by decide +kernel) (by decide +kernel) (by decide +kernel) (by decide +kernel)
theorem no_g {n s p c u : Addr} : (flds5 n s p c u).lookup ("given" : Str) = none := fl_no (by decide +kernel) (by decide +kernel) (by decide +kernel) (by decide +kernel) (by decide +kernel)
theorem no_t {n s p c u : Addr} : (flds5 n s p c u).lookup ("turns" : Str) = none := fl_no (by decide +kernel) (by decide +kernel) (by decide +kernel) (by decide +kernel) (by decide +kernel)
theorem no_a {n s p c u : Addr} : (flds5 n s p c u).lookup ("start" : Str) = none := fl_no (by decide +kernel) (by decide +kernel) (by decide +kernel) (by decide +kernel) (by decide +kernel)
theorem no_s {n s p c u : Addr} : (flds5 n s p c u).lookup ("step" : Str) = none := fl_no (by decide +kernel) (by decide +kernel) (by decide +kernel) (by decide +kernel) (by decide +kernel)
section
variable {P : Program} {w : World} {K : PySem.W.Frag} {mg : Str → Option Value} {base : Heap} {C : Addr}
theorem scTr : FnScope ["_law_teller"] ["_law_teller"] (defScope sTold) := ⟨rfl, rfl, rfl, by decide +kernel, rfl, by decide +kernel, by decide +kernel⟩
theorem ok_told {f fW fG fT : Addr} {fd dW dG dT : FuncData} (F : Fun K "_law_told" "_law_told" sTold f fd) (G : Mgs mg) (T : Txt K mg C) (UW : UseM P w K mg base C "way" ["self"] 1 (spTWay C) fW dW) (UG : UseM P w K mg base C "given" ["self"] 1 (spTGiven C) fG dG) (UT : UseM P w K mg base C "turns" ["self"] 1 (spTTurns C) fT dT) : FnOk P w K mg base CX0 2 f fd ["_law_teller"] (spTold C) := by
  refine F.ok scTr (fun vs H Q E h => ?_) (fun cdv A' outer s H vs Q E hr h => ?_)
  · obtain ⟨A, N, S, rfl, _⟩ := h
    rfl
  obtain ⟨A, N, S, rfl, te, fw, q⟩ := h
  have hr1 : Room 1 _ := hr.mono (by decide)
  refine ⟨_, (@pss_one _ _ _ (@ps_ret _ _ _ _ (@pe_tup _ _ _ _ _ (@pa_cons _ _ _ _ _ (@pe_meth0 _ _ _ _ _ _ _ _ _ _ _ _ _ _ _ _ _ (@pv _ 0 _ _ (by rfl) (by first | exact Or.inl rfl | exact Or.inr (Or.inl rfl) | exact Or.inr (Or.inr rfl)) (by decide) (by decide)) T.cl UW.mt UW.ok hr1 UW.b .nil pass0 (by rfl)) (@pa_cons _ _ _ _ _ (@pe_meth0 _ _ _ _ _ _ _ _ _ _ _ _ _ _ _ _ _ (@pv _ 0 _ _ (by rfl) (by first | exact Or.inl rfl | exact Or.inr (Or.inl rfl) | exact Or.inr (Or.inr rfl)) (by decide) (by decide)) T.cl UG.mt UG.ok hr1 UG.b .nil pass0 (by rfl)) (@pa_cons _ _ _ _ _ (@pe_meth0 _ _ _ _ _ _ _ _ _ _ _ _ _ _ _ _ _ (@pv _ 0 _ _ (by rfl) (by first | exact Or.inl rfl | exact Or.inr (Or.inl rfl) | exact Or.inr (Or.inr rfl)) (by decide) (by decide)) T.cl UT.mt UT.ok hr1 UT.b .nil pass0 (by rfl)) pa_nil (by rfl)) (by rfl)) (by rfl))))), ?_⟩
  obtain ⟨dx, ob⟩ := te.ob
  have f1 := fw.f1
  have f2 := fw.f2
  refine ⟨_, rfl, A.t, dx, _, rfl, ob, no_w, A, N, S, rfl, te, by lia, fun p1 H1 s1 h1 => ?_⟩
  have te1 := te.keep s1
  obtain ⟨dx1, ob1⟩ := te1.ob
  refine ⟨_, rfl, A.t, dx1, _, rfl, ob1, no_g, A, N, S, rfl, te1, by lia, fun p2 ms H2 s2 pm so h2 => ?_⟩
  have te2 := te1.keep s2
  obtain ⟨dx2, ob2⟩ := te2.ob
  refine ⟨_, rfl, A.t, dx2, _, rfl, ob2, no_t, A, N, S, rfl, te2, fun p3 H3 s3 h3 => ?_⟩
  refine ⟨by show 3 ≤ sizeLine; decide, fun p hp => ?_⟩
  have s4 := same_new hp (.tup [.ref p1, .ref p2, .ref p3])
  exact q p _ (((s1.trans s2).trans s3).trans s4) ⟨p1, p2, p3, ms, atNew hp _, s4 _ _ (s3 _ _ (s2 _ _ h1)), pm, so, s4 _ _ (s3 _ _ h2), s4 _ _ h3⟩
end
end K26
end
section
set_option maxHeartbeats 4000001
namespace K26
open PySem L2 Own Bn
abbrev sHand : Stmt := top 16
theorem cut_ints (ns : List Int) (lo hi : Option Int) (h : ns.length ≤ 63) : ∃ ms : List Int, cutV (ns.map V.int) lo hi = ms.map V.int ∧ ms.length ≤ 63 := by
  refine ⟨(ns.drop (HT.sIx (ns.map V.int).length 0 lo)).take (HT.sIx (ns.map V.int).length (ns.map V.int).length hi - HT.sIx (ns.map V.int).length 0 lo), ?_, ?_⟩
  · unfold cutV; rw [List.map_take, List.map_drop]
  · rw [List.length_take, List.length_drop]; lia
theorem int_at {ms : List Int} {i : Nat} {x : V} (h : (ms.map V.int)[i]? = some x) : i < ms.length ∧ ∃ z, x = V.int z := by
  rw [List.getElem?_map] at h
  cases e : ms[i]? with
  | none => rw [e] at h; cases h
  | some z => rw [e] at h; exact ⟨(List.getElem?_eq_some_iff.mp e).1, z, (Option.some.inj h).symm⟩
def spHand (K : PySem.W.Frag) : Sp := fun vs H Q _ => ∃ (a : Addr) (ns : List Int), vs = [.ref a] ∧ SqL K H a (ns.map V.int) ∧ ns.length ≤ 63 ∧
  ∀ l H', H l = none → Same H H' → StAt H' l 0 → Q (.ref l) H'
theorem far_le (i : Nat) (f : Int) (h0 : 0 < f) (h : f ≤ 2 ^ (200 * i)) : f * 10 ^ 60 ≤ 2 ^ (200 * (i + 1)) := by
  have e : (2 : Int) ^ (200 * (i + 1)) = 2 ^ (200 * i) * 2 ^ 200 := by rw [Nat.mul_add, Int.pow_add]
  rw [e]
  have t : (10 : Int) ^ 60 ≤ 2 ^ 200 := by decide
  exact Int.le_trans (Int.mul_le_mul_of_nonneg_left t (by lia)) (Int.mul_le_mul_of_nonneg_right h (by decide))
theorem far_small {i : Nat} {f : Int} (hi : i ≤ 63) (h0 : 0 < f) (h : f ≤ 2 ^ (200 * i)) : f.natAbs < 2 ^ 20000 := by
  have e : (2 : Int) ^ (200 * i) = ((2 ^ (200 * i) : Nat) : Int) := by rw [Int.natCast_pow]; rfl
  have l : (2 : Nat) ^ (200 * i) < 2 ^ 20000 := Nat.pow_lt_pow_right (by decide) (by lia)
  rw [e] at h
  generalize (2 : Nat) ^ 20000 = N at *
  lia
theorem rest_small (x : Int) : (x % 10 ^ 60).natAbs < 2 ^ 20000 := by
  have a := Int.emod_nonneg x (show (10 : Int) ^ 60 ≠ 0 by decide)
  have b := Int.emod_lt_of_pos x (show (0 : Int) < 10 ^ 60 by decide)
  have c : (10 : Nat) ^ 60 < 2 ^ 200 := by decide
  have d : (2 : Nat) ^ 200 < 2 ^ 20000 := Nat.pow_lt_pow_right (by decide) (by decide)
  have e : ((10 : Int) ^ 60) = ((10 ^ 60 : Nat) : Int) := by decide
  rw [e] at a b ⊢
  generalize (2 : Nat) ^ 20000 = N at *
  generalize (2 : Nat) ^ 200 = M at *
  lia
section
variable {P : Program} {w : World} {K : PySem.W.Frag} {mg : Str → Option Value} {base : Heap}
theorem scH : FnScope ["_law_script", "_law_state", "_law_far", "_law_cell", "_law_k", "_law_one"] ["_law_script"] (defScope sHand) := ⟨rfl, rfl, rfl, by decide +kernel, rfl, by decide +kernel, by decide +kernel⟩
theorem ok_hand {f : Addr} {fd : FuncData} (F : Fun K "_law_hand" "_law_hand" sHand f fd) (G : Mgs mg) : FnOk P w K mg base CX0 1 f fd ["_law_script"] (spHand K) := by
  refine F.ok scH (fun vs H Q E h => ?_) (fun cdv A outer s H vs Q E hr h => ?_)
  · obtain ⟨a, ns, rfl, _⟩ := h
    rfl
  · obtain ⟨a, ns, rfl, hS, h63, k⟩ := h
    obtain ⟨t', hR, hq⟩ : ∃ t', PSs (cxOf CX0 P w K mg base ["_law_script", "_law_state", "_law_far", "_law_cell", "_law_k", "_law_one"] "_law_hand" (defScope sHand) f cdv A outer s H E).nox ((defBody sHand).drop 2) t' ∧
        ∀ (l : Addr) (v2 v3 v4 v5 : Option V) (H' : Hp) (x : Int), H l = none → Same H H' → 0 ≤ x → H' l = some (.lst [.int x, .int 0, .int 0]) → t' { nx := fun _ H' => Q .non H', rt := Q } [some (.ref a), some (.ref l), v2, v3, v4, v5] H' := by
      refine ⟨_, pss_cons (ps_for PassesOwn.never rfl (pi_enum true rfl G.enum (pa_cons (pe_slice sl_list (pv 0) po_none (po_some pe_int)) pa_nil)) (pg_tup rfl (pgs_cons (pg_name (i := 4) scH.nd rfl (Or.inl rfl)) (pgs_cons (pg_name (i := 3) scH.nd rfl (Or.inl rfl)) pgs_nil)))
          (pss_cons (ps_set (i := 5) scH.nd rfl (Or.inl rfl) (pe_op op_add (pe_op op_add (pe_op op_mod (pv 3) pe_int) (pe_op op_mul pe_int (pv 4))) pe_int))
          (pss_one (ps_asg (pe_op op_mod (pe_op op_add (pe_op op_mul (pe_ix ix_list (pv 1) pe_int (fun _ _ => rfl)) pe_int) (pv 5)) pe_int) (pg_sub (pv 1) pe_int set_list)))))
        (pss_one (ps_ret (pv 1))), ?_⟩
      intro l v2 v3 v4 v5 H1 x hl s1 x0 h1
      obtain ⟨ms, em, lm⟩ := cut_ints ns none (some 63) h63
      refine ⟨_, rfl, 63, rfl, a, _, rfl, s1.seq hS, fun p hp => ?_⟩
      have npl : p ≠ l := fun e => by rw [e, h1] at hp; cases hp
      refine ⟨p, ms.map V.int, rfl, SqL.of (by rw [← em]; exact upd_same), for_enum (K := K) (b := true) (a := p) (xs := ms.map V.int) (fun i σ H2 => (∃ w2 w3 w4 w5, σ = [some (.ref a), some (.ref l), w2, w3, w4, w5]) ∧ Same H H2 ∧ H2 p = some (.lst (ms.map V.int)) ∧ ∃ y : Int, 0 ≤ y ∧ y < 2305843009213693951 ∧ H2 l = some (.lst [.int x, .int y, .int 0]))
        ⟨⟨_, _, _, _, rfl⟩, s1.trans (same_new hp _), by rw [← em]; exact upd_same, 0, by decide, by decide, by rw [upd_ne npl.symm]; exact h1⟩ (fun i σ H2 _ q => SqL.of q.2.2.1) ?_ ?_⟩
      · rintro i v σ H2 T hi hT ⟨⟨w2, w3, w4, w5, rfl⟩, s2, h2, y, y0, y1, h3⟩
        obtain ⟨il, z, rfl⟩ := int_at hi
        have nTl : l ≠ T := ne_of_none h3 hT
        have nTp : p ≠ T := ne_of_none h2 hT
        refine ⟨T, _, rfl, SqT.of upd_same, rfl, _, _, rfl, _, _, rfl, rfl, ?_⟩
        refine ⟨_, rfl, _, _, rfl, rfl, (by show (0 : Int) < 2305843009213693951; decide), _, rfl, _, _, rfl, rfl, .inl ⟨by decide, by decide⟩, _, _, rfl, rfl, _, _, rfl, rfl, ?_⟩
        have h3' : (upd H2 T (.tup [.int i, .int z])) l = some (.lst [.int x, .int y, .int 0]) := by rw [upd_ne nTl]; exact h3
        refine ⟨_, rfl, l, _, _, _, rfl, rfl, SqL.of h3', rfl, _, _, rfl, rfl, .inr ⟨by decide, by decide⟩, _, rfl, _, _, rfl, rfl, _, _, rfl, rfl, (by show (0 : Int) < 2305843009213693951; decide), _, rfl, l, _, _, 1, rfl, rfl, h3', rfl, ?_⟩
        refine ⟨⟨_, _, _, _, rfl⟩, fun b o e => ?_, ?_, _, Int.emod_nonneg _ (by decide), Int.emod_lt_of_pos _ (by decide), upd_same⟩
        · rw [upd_ne (ne_of_none e hl), upd_ne (ne_of_none (s2 b o e) hT)]; exact s2 b o e
        · rw [upd_ne npl, upd_ne nTp]; exact h2
      · rintro σ H2 ⟨⟨w2, w3, w4, w5, rfl⟩, s2, h2, y, y0, y1, h3⟩
        exact ⟨_, rfl, k l H2 hl s2 ⟨x, y, 0, h3, x0, y0, by lia, by decide, by decide⟩⟩
    refine ⟨_, pss_cons (ps_set (i := 1) scH.nd rfl (Or.inl rfl) (pe_lst (pa_cons pe_int (pa_cons pe_int (pa_cons pe_int pa_nil)))))
      (pss_cons (ps_if (pw_and (pt_cmpR op_gt (pe_callB call_len_seq (by rfl) G.len PySem.boot_len (pa_cons (pv 0) pa_nil)) pe_int (nomark _)) (pw_and1 (pt_cmpR op_ge (pe_ix ix_list (pv 0) pe_int (fun _ _ => rfl)) (pe_op op_pow pe_int pe_int) (nomark _)))).pt
        (pss_cons (ps_set (i := 2) scH.nd rfl (Or.inl rfl) pe_int)
        (pss_one (ps_for PassesOwn.never rfl (pi_list (pe_slice sl_list (pv 0) po_none (po_some pe_int))) (pg_name (i := 3) scH.nd rfl (Or.inl rfl))
          (pss_cons (ps_asg (pe_op op_add (pe_ix ix_list (pv 1) pe_int (fun _ _ => rfl)) (pe_op op_mulW (pe_op op_mod (pe_callB call_abs (by rfl) G.abs (by rfl) (pa_cons (pv 3) pa_nil)) (pe_op op_pow pe_int pe_int)) (pv 2))) (pg_sub (pv 1) pe_int set_list))
          (pss_one (ps_set (i := 2) scH.nd rfl (Or.inl rfl) (pe_op op_mulW (pv 2) (pe_op op_pow pe_int pe_int))))))))
        pss_nil) hR), ?_⟩
    refine ⟨(by show 3 ≤ sizeLine; decide), fun l hl => ?_⟩
    have s0 : Same H (upd H l (.lst [.int 0, .int 0, .int 0])) := same_new hl _
    refine ⟨_, rfl, a, _, rfl, .inl (s0.seq hS), _, _, rfl, rfl, _, rfl, ?_⟩
    refine ite2 (fun q => ?_) (fun q => ?_)
    · have hpos : 0 < ns.length := by
        have := of_decide_eq_true q
        rw [List.length_map] at this
        lia
      refine ⟨_, rfl, a, _, _, _, rfl, rfl, s0.seq hS, (atI_nat (j := 0) (by rw [List.getElem?_map, List.getElem?_eq_getElem hpos]; rfl)), _, _, rfl, rfl, ⟨by decide, by decide, by decide⟩, _, _, rfl, rfl, _, rfl, ?_⟩
      refine ite2 (fun q2 => ?_) (fun q2 => ?_)
      · obtain ⟨ms, em, lm⟩ := cut_ints ns none (some 63) h63
        refine ⟨_, rfl, 63, rfl, a, _, rfl, s0.seq hS, fun p hp => ?_⟩
        have npl : p ≠ l := fun e => by rw [e, upd_same] at hp; cases hp
        refine ⟨p, rfl, ⟨_, SqL.of upd_same⟩, for_list (K := K) (a := p) (xs := ms.map V.int) (fun i σ H2 => (∃ (far : Int) (w3 w4 w5 : Option V), σ = [some (.ref a), some (.ref l), some (.int far), w3, w4, w5] ∧ 0 < far ∧ far ≤ 2 ^ (200 * i)) ∧ Same H H2 ∧ H2 p = some (.lst (ms.map V.int)) ∧ ∃ x : Int, 0 ≤ x ∧ H2 l = some (.lst [.int x, .int 0, .int 0]))
          ⟨⟨1, _, _, _, rfl, by decide, by decide⟩, s0.trans (same_new hp _), by rw [← em]; exact upd_same, 0, by decide, by rw [upd_ne npl.symm]; exact upd_same⟩ (fun i σ H2 _ q => SqL.of q.2.2.1) ?_ ?_⟩
        · rintro i v σ H2 hi ⟨⟨far, w3, w4, w5, rfl, f0, f1⟩, s2, h2, x, x0, h3⟩
          obtain ⟨il, z, rfl⟩ := int_at hi
          have fs := far_small (by lia) f0 f1
          refine ⟨_, rfl, l, _, _, _, rfl, rfl, SqL.of h3, rfl, _, rfl, _, rfl, _, _, rfl, rfl, ⟨by decide, by decide, by decide⟩, _, _, rfl, rfl, (by show (0 : Int) < 10 ^ 60; decide), _, rfl, _, _, rfl, rfl, ⟨?_, fs⟩, _, _, rfl, rfl, _, rfl, l, _, _, 0, rfl, rfl, h3, rfl, ?_⟩
          · exact rest_small _
          refine ⟨_, rfl, _, _, rfl, rfl, ⟨by decide, by decide, by decide⟩, _, _, rfl, rfl, ⟨fs, by decide⟩, ?_⟩
          refine ⟨⟨_, _, _, _, rfl, ?_, far_le i far f0 f1⟩, fun b o e => ?_, ?_, _, ?_, upd_same⟩
          · exact Int.mul_pos f0 (by decide)
          · rw [upd_ne (ne_of_none e hl)]; exact s2 b o e
          · rw [upd_ne npl]; exact h2
          · exact Int.add_nonneg x0 (Int.mul_nonneg (Int.emod_nonneg _ (by decide)) (by lia))
        · rintro σ H2 ⟨⟨far, w3, w4, w5, rfl, _, _⟩, s2, h2, x, x0, h3⟩
          exact hq l _ _ _ _ H2 x hl s2 x0 h3
      · exact hq l _ _ _ _ _ 0 hl s0 (by decide) upd_same
    · exact hq l _ _ _ _ _ 0 hl s0 (by decide) upd_same
end
end K26
end
section
set_option maxHeartbeats 4000001
namespace K26
open PySem L2 Own Bn
abbrev sNet : Stmt := top 18
theorem StAt.keep {H H' : Hp} {l : Addr} {n : Nat} (S : StAt H l n) (s : Same H H') : StAt H' l n := by
  obtain ⟨a, b, c, h, r⟩ := S.ex
  exact ⟨a, b, c, s _ _ h, r⟩
theorem StAt.ne {H : Hp} {l p : Addr} {n : Nat} (S : StAt H l n) (h : H p = none) : l ≠ p := by
  obtain ⟨a, b, c, e, _⟩ := S.ex
  exact ne_of_none e h
theorem StAt.upd {H : Hp} {l p : Addr} {o : HO} {n : Nat} (S : StAt H l n) (h : l ≠ p) : StAt (L2.upd H p o) l n := by
  obtain ⟨a, b, c, e, r⟩ := S.ex
  exact ⟨a, b, c, by rw [upd_ne h]; exact e, r⟩
theorem tups_but {H H' : Hp} {l : Addr} {n : Nat} (x : But l H H') (S : StAt H l n) : Tups H H' := fun a xs e => x a _ e (by
  rintro rfl
  obtain ⟨_, _, _, z, _⟩ := S.ex
  rw [z] at e; cases e)
theorem nums_erase (es : List Nat) (k : Nat) : (nums es).eraseIdx k = nums (es.eraseIdx k) := by
  unfold nums
  rw [List.eraseIdx_eq_take_drop_succ, List.eraseIdx_eq_take_drop_succ, List.map_append, List.map_take, List.map_drop]
theorem erase_perm {es : List Nat} {k : Nat} (h : k < es.length) : (es[k] :: es.eraseIdx k).Perm es := by
  have e : es.take k ++ es[k] :: es.drop (k + 1) = es := by rw [← List.drop_eq_getElem_cons h, List.take_append_drop]
  have p := (List.perm_middle (a := es[k]) (l₁ := es.take k) (l₂ := es.drop (k + 1))).symm
  rw [e] at p
  rw [List.eraseIdx_eq_take_drop_succ]
  exact p
def spNet : Sp := fun vs H Q _ => ∃ (l : Addr) (n : Nat), vs = [.ref l, .int 16, .int 30] ∧ StAt H l n ∧ n < 2 ^ 59 ∧ ∀ r fr er ps N H', Nt.Ok N → N.forks.length ≤ 30 → NetAt H' r fr er ps N → StAt H' l (n + 500) → But l H H' → Q (.ref r) H'
section
variable {P : Program} {w : World} {K : PySem.W.Frag} {mg : Str → Option Value} {base : Heap}
theorem scN : FnScope ["_law_state", "_law_lanes_most", "_law_forks_most", "_law_lanes", "_law_many", "_law_forks", "_law_k", "_law_one", "_law_other", "_law_way", "_law_left", "_law_ends", "_law_shuffled"] ["_law_state", "_law_lanes_most", "_law_forks_most"] (defScope sNet) := ⟨rfl, rfl, rfl, by decide +kernel, rfl, by decide +kernel, by decide +kernel⟩
theorem ok_net {f fK : Addr} {fd dK : FuncData} (F : Fun K "_law_net" "_law_net" sNet f fd) (G : Mgs mg) (UK : Use P w K mg base "_law_take" ["_law_state", "_law_many"] 1 (spTake K) fK dK) : FnOk P w K mg base CX0 2 f fd ["_law_state", "_law_lanes_most", "_law_forks_most"] spNet := by
  refine F.ok scN (fun vs H Q E h => ?_) (fun cdv A outer s H vs Q E hr h => ?_)
  · obtain ⟨l, n, rfl, _⟩ := h
    rfl
  obtain ⟨l, n, rfl, S, hn, k⟩ := h
  refine ⟨_, (@pss_cons _ _ _ _ _ (@ps_set _ _ 3 _ _ _ _ scN.nd rfl (Or.inl rfl) (@pe_callB _ _ _ _ _ _ _ _ _ (call_min2 rfl) (by rfl) G.min (by rfl) (@pa_cons _ _ _ _ _ (@pv _ 1 _ _ (by rfl) (by first | exact Or.inl rfl | exact Or.inr (Or.inl rfl) | exact Or.inr (Or.inr rfl)) (by decide) (by decide)) (@pa_cons _ _ _ _ _ (@pe_ix _ _ _ _ _ _ _ ix_list (@pe_lst _ _ _ _ (@pa_cons _ _ _ _ _ pe_int (@pa_cons _ _ _ _ _ pe_int (@pa_cons _ _ _ _ _ pe_int (@pa_cons _ _ _ _ _ pe_int (@pa_cons _ _ _ _ _ pe_int (@pa_cons _ _ _ _ _ pe_int (@pa_cons _ _ _ _ _ pe_int (@pa_cons _ _ _ _ _ pe_int (@pa_cons _ _ _ _ _ pe_int (@pa_cons _ _ _ _ _ pe_int pa_nil (by rfl)) (by rfl)) (by rfl)) (by rfl)) (by rfl)) (by rfl)) (by rfl)) (by rfl)) (by rfl)) (by rfl))) (@pe_call _ _ _ _ _ _ _ _ _ _ _ _ _ _ _ _ UK.ok hr (by rfl) UK.m UK.kp UK.b .nil pass0 (@pa_cons _ _ _ _ _ (@pv _ 0 _ _ (by rfl) (by first | exact Or.inl rfl | exact Or.inr (Or.inl rfl) | exact Or.inr (Or.inr rfl)) (by decide) (by decide)) (@pa_cons _ _ _ _ _ pe_int pa_nil (by rfl)) (by rfl)) (by decide) (by rfl) (by rfl)) (fun _ _ => rfl)) pa_nil (by rfl)) (by rfl)) (by decide) (by decide) (by rfl) (by rfl)) (by rfl) (by first | exact .inl rfl | exact .inr rfl | assumption)) (@pss_cons _ _ _ _ _ (@ps_set _ _ 4 _ _ _ _ scN.nd rfl (Or.inl rfl) (@pe_op _ _ _ _ _ _ _ _ op_mul (@pe_callB _ _ _ _ _ _ _ _ _ (call_min2 rfl) (by rfl) G.min (by rfl) (@pa_cons _ _ _ _ _ (@pv _ 2 _ _ (by rfl) (by first | exact Or.inl rfl | exact Or.inr (Or.inl rfl) | exact Or.inr (Or.inr rfl)) (by decide) (by decide)) (@pa_cons _ _ _ _ _ (@pe_ix _ _ _ _ _ _ _ ix_list (@pe_lst _ _ _ _ (@pa_cons _ _ _ _ _ pe_int (@pa_cons _ _ _ _ _ pe_int (@pa_cons _ _ _ _ _ pe_int (@pa_cons _ _ _ _ _ pe_int (@pa_cons _ _ _ _ _ pe_int (@pa_cons _ _ _ _ _ pe_int (@pa_cons _ _ _ _ _ pe_int (@pa_cons _ _ _ _ _ pe_int (@pa_cons _ _ _ _ _ pe_int pa_nil (by rfl)) (by rfl)) (by rfl)) (by rfl)) (by rfl)) (by rfl)) (by rfl)) (by rfl)) (by rfl))) (@pe_call _ _ _ _ _ _ _ _ _ _ _ _ _ _ _ _ UK.ok hr (by rfl) UK.m UK.kp UK.b .nil pass0 (@pa_cons _ _ _ _ _ (@pv _ 0 _ _ (by rfl) (by first | exact Or.inl rfl | exact Or.inr (Or.inl rfl) | exact Or.inr (Or.inr rfl)) (by decide) (by decide)) (@pa_cons _ _ _ _ _ pe_int pa_nil (by rfl)) (by rfl)) (by decide) (by rfl) (by rfl)) (fun _ _ => rfl)) pa_nil (by rfl)) (by rfl)) (by decide) (by decide) (by rfl) (by rfl)) (@pe_callTy _ _ _ _ _ _ _ _ _ call_int1 (by rfl) G.int (by rfl) (@pa_cons _ _ _ _ _ (@pe_cmpR _ _ _ _ _ _ _ _ op_gt (@pv _ 3 _ _ (by rfl) (by first | exact Or.inl rfl | exact Or.inr (Or.inl rfl) | exact Or.inr (Or.inr rfl)) (by decide) (by decide)) pe_int (nomark _)) pa_nil (by rfl)) (by decide) (by decide) (by rfl) (by rfl))) (by rfl) (by first | exact .inl rfl | exact .inr rfl | assumption)) (@pss_cons _ _ _ _ _ (@ps_set _ _ 5 _ _ _ _ scN.nd rfl (Or.inl rfl) (@pe_lst _ _ _ _ pa_nil) (by rfl) (by first | exact .inl rfl | exact .inr rfl | assumption)) (@pss_cons _ _ _ _ _ (@ps_for _ _ _ _ _ _ _ _ PassesOwn.never rfl (@pi_range1 _ _ _ _ _ _ rfl G.range (@pa_cons _ _ _ _ _ (@pv _ 4 _ _ (by rfl) (by first | exact Or.inl rfl | exact Or.inr (Or.inl rfl) | exact Or.inr (Or.inr rfl)) (by decide) (by decide)) pa_nil (by rfl)) (by rfl)) (@pg_name _ _ 6 _ scN.nd rfl (Or.inl rfl) (by first | exact .inl rfl | exact .inr rfl | assumption)) (@pss_cons _ _ _ _ _ (@ps_set _ _ 7 _ _ _ _ scN.nd rfl (Or.inl rfl) (@pe_call _ _ _ _ _ _ _ _ _ _ _ _ _ _ _ _ UK.ok hr (by rfl) UK.m UK.kp UK.b .nil pass0 (@pa_cons _ _ _ _ _ (@pv _ 0 _ _ (by rfl) (by first | exact Or.inl rfl | exact Or.inr (Or.inl rfl) | exact Or.inr (Or.inr rfl)) (by decide) (by decide)) (@pa_cons _ _ _ _ _ (@pv _ 3 _ _ (by rfl) (by first | exact Or.inl rfl | exact Or.inr (Or.inl rfl) | exact Or.inr (Or.inr rfl)) (by decide) (by decide)) pa_nil (by rfl)) (by rfl)) (by decide) (by rfl) (by rfl)) (by rfl) (by first | exact .inl rfl | exact .inr rfl | assumption)) (@pss_cons _ _ _ _ _ (@ps_set _ _ 8 _ _ _ _ scN.nd rfl (Or.inl rfl) (@pe_op _ _ _ _ _ _ _ _ op_mod (@pe_op _ _ _ _ _ _ _ _ op_add (@pe_op _ _ _ _ _ _ _ _ op_add (@pv _ 7 _ _ (by rfl) (by first | exact Or.inl rfl | exact Or.inr (Or.inl rfl) | exact Or.inr (Or.inr rfl)) (by decide) (by decide)) pe_int) (@pe_call _ _ _ _ _ _ _ _ _ _ _ _ _ _ _ _ UK.ok hr (by rfl) UK.m UK.kp UK.b .nil pass0 (@pa_cons _ _ _ _ _ (@pv _ 0 _ _ (by rfl) (by first | exact Or.inl rfl | exact Or.inr (Or.inl rfl) | exact Or.inr (Or.inr rfl)) (by decide) (by decide)) (@pa_cons _ _ _ _ _ (@pe_callB _ _ _ _ _ _ _ _ _ (call_max2 rfl) (by rfl) G.max (by rfl) (@pa_cons _ _ _ _ _ pe_int (@pa_cons _ _ _ _ _ (@pe_op _ _ _ _ _ _ _ _ op_sub (@pv _ 3 _ _ (by rfl) (by first | exact Or.inl rfl | exact Or.inr (Or.inl rfl) | exact Or.inr (Or.inr rfl)) (by decide) (by decide)) pe_int) pa_nil (by rfl)) (by rfl)) (by decide) (by decide) (by rfl) (by rfl)) pa_nil (by rfl)) (by rfl)) (by decide) (by rfl) (by rfl))) (@pv _ 3 _ _ (by rfl) (by first | exact Or.inl rfl | exact Or.inr (Or.inl rfl) | exact Or.inr (Or.inr rfl)) (by decide) (by decide))) (by rfl) (by first | exact .inl rfl | exact .inr rfl | assumption)) (@pss_cons _ _ _ _ _ (@ps_set _ _ 9 _ _ _ _ scN.nd rfl (Or.inl rfl) (@pe_call _ _ _ _ _ _ _ _ _ _ _ _ _ _ _ _ UK.ok hr (by rfl) UK.m UK.kp UK.b .nil pass0 (@pa_cons _ _ _ _ _ (@pv _ 0 _ _ (by rfl) (by first | exact Or.inl rfl | exact Or.inr (Or.inl rfl) | exact Or.inr (Or.inr rfl)) (by decide) (by decide)) (@pa_cons _ _ _ _ _ pe_int pa_nil (by rfl)) (by rfl)) (by decide) (by rfl) (by rfl)) (by rfl) (by first | exact .inl rfl | exact .inr rfl | assumption)) (@pss_cons _ _ _ _ _ (@ps_if _ _ _ _ _ _ _ _ (@pw_and _ _ _ _ _ _ _ (@pt_cmpR _ _ _ _ _ _ _ _ op_eq (@pv _ 9 _ _ (by rfl) (by first | exact Or.inl rfl | exact Or.inr (Or.inl rfl) | exact Or.inr (Or.inr rfl)) (by decide) (by decide)) pe_int (nomark _)) (@pw_and1 _ _ _ _ (@pt_cmpR _ _ _ _ _ _ _ _ (op_neE hr.units0) (@pv _ 5 _ _ (by rfl) (by first | exact Or.inl rfl | exact Or.inr (Or.inl rfl) | exact Or.inr (Or.inr rfl)) (by decide) (by decide)) (@pe_lst _ _ _ _ pa_nil) (nomark _)))).pt (@pss_one _ _ _ (@ps_asg _ _ _ _ _ _ (@pe_ix _ _ _ _ _ _ _ ix_list (@pv _ 5 _ _ (by rfl) (by first | exact Or.inl rfl | exact Or.inr (Or.inl rfl) | exact Or.inr (Or.inr rfl)) (by decide) (by decide)) (@pe_un _ _ _ _ _ _ un_neg pe_int) (fun _ _ => rfl)) (@pg_tup _ _ _ _ _ _ rfl (@pgs_cons _ _ _ _ _ (@pg_name _ _ 7 _ scN.nd rfl (Or.inl rfl) (by first | exact .inl rfl | exact .inr rfl | assumption)) (@pgs_cons _ _ _ _ _ (@pg_name _ _ 8 _ scN.nd rfl (Or.inl rfl) (by first | exact .inl rfl | exact .inr rfl | assumption)) pgs_nil (by rfl)) (by rfl)) (by rfl) (by rfl)) (by rfl) (by rfl) (by rfl))) pss_nil) (@pss_cons _ _ _ _ _ (@ps_if _ _ _ _ _ _ _ _ (@pt_cmpR _ _ _ _ _ _ _ _ op_eq (@pv _ 9 _ _ (by rfl) (by first | exact Or.inl rfl | exact Or.inr (Or.inl rfl) | exact Or.inr (Or.inr rfl)) (by decide) (by decide)) pe_int (nomark _)) (@pss_one _ _ _ (@ps_par _ _ 7 8 _ _ _ _ _ _ _ _ _ _ _ rfl scN.nd rfl rfl (by decide) rfl rfl (@pa_cons _ _ _ _ _ (@pe_op _ _ _ _ _ _ _ _ op_mod (@pv _ 6 _ _ (by rfl) (by first | exact Or.inl rfl | exact Or.inr (Or.inl rfl) | exact Or.inr (Or.inr rfl)) (by decide) (by decide)) (@pv _ 3 _ _ (by rfl) (by first | exact Or.inl rfl | exact Or.inr (Or.inl rfl) | exact Or.inr (Or.inr rfl)) (by decide) (by decide))) (@pa_cons _ _ _ _ _ (@pe_op _ _ _ _ _ _ _ _ op_mod (@pe_op _ _ _ _ _ _ _ _ op_add (@pv _ 6 _ _ (by rfl) (by first | exact Or.inl rfl | exact Or.inr (Or.inl rfl) | exact Or.inr (Or.inr rfl)) (by decide) (by decide)) pe_int) (@pv _ 3 _ _ (by rfl) (by first | exact Or.inl rfl | exact Or.inr (Or.inl rfl) | exact Or.inr (Or.inr rfl)) (by decide) (by decide))) pa_nil (by rfl)) (by rfl)) (by rfl) (by rfl))) pss_nil) (@pss_one _ _ _ (@ps_expr _ _ _ _ (@pe_bm _ _ _ _ _ _ _ _ _ _ _ _ PySem.F.plainAttrs_list PySem.F.slot_list_append PySem.F.type_list_append mt_append (@pv _ 5 _ _ (by rfl) (by first | exact Or.inl rfl | exact Or.inr (Or.inl rfl) | exact Or.inr (Or.inr rfl)) (by decide) (by decide)) (@pa_cons _ _ _ _ _ (@pe_tup _ _ _ _ _ (@pa_cons _ _ _ _ _ (@pv _ 7 _ _ (by rfl) (by first | exact Or.inl rfl | exact Or.inr (Or.inl rfl) | exact Or.inr (Or.inr rfl)) (by decide) (by decide)) (@pa_cons _ _ _ _ _ (@pv _ 8 _ _ (by rfl) (by first | exact Or.inl rfl | exact Or.inr (Or.inl rfl) | exact Or.inr (Or.inr rfl)) (by decide) (by decide)) pa_nil (by rfl)) (by rfl))) pa_nil (by rfl)) (by rfl) (by rfl) (by rfl) (by rfl) (by rfl)) (by rfl)))))))) (by intro _; rfl)) (@pss_cons _ _ _ _ _ (@ps_par _ _ 10 11 _ _ _ _ _ _ _ _ _ _ _ rfl scN.nd rfl rfl (by decide) rfl rfl (@pa_cons _ _ _ _ _ (@pe_lstRng _ _ _ _ _ _ _ rfl (by rfl) G.list (by rfl) G.range (@pa_cons _ _ _ _ _ (@pv _ 3 _ _ (by rfl) (by first | exact Or.inl rfl | exact Or.inr (Or.inl rfl) | exact Or.inr (Or.inr rfl)) (by decide) (by decide)) pa_nil (by rfl)) (by rfl) (by rfl)) (@pa_cons _ _ _ _ _ (@pe_lst _ _ _ _ pa_nil) pa_nil (by rfl)) (by rfl)) (by rfl) (by rfl)) (@pss_cons _ _ _ _ _ (@ps_set _ _ 12 _ _ _ _ scN.nd rfl (Or.inl rfl) (@pe_cmpR _ _ _ _ _ _ _ _ op_eq (@pe_call _ _ _ _ _ _ _ _ _ _ _ _ _ _ _ _ UK.ok hr (by rfl) UK.m UK.kp UK.b .nil pass0 (@pa_cons _ _ _ _ _ (@pv _ 0 _ _ (by rfl) (by first | exact Or.inl rfl | exact Or.inr (Or.inl rfl) | exact Or.inr (Or.inr rfl)) (by decide) (by decide)) (@pa_cons _ _ _ _ _ pe_int pa_nil (by rfl)) (by rfl)) (by decide) (by rfl) (by rfl)) pe_int (nomark _)) (by rfl) (by first | exact .inl rfl | exact .inr rfl | assumption)) (@pss_cons _ _ _ _ _ (@ps_for _ _ _ _ _ _ _ _ PassesOwn.never rfl (@pi_range1 _ _ _ _ _ _ rfl G.range (@pa_cons _ _ _ _ _ (@pv _ 3 _ _ (by rfl) (by first | exact Or.inl rfl | exact Or.inr (Or.inl rfl) | exact Or.inr (Or.inr rfl)) (by decide) (by decide)) pa_nil (by rfl)) (by rfl)) (@pg_name _ _ 6 _ scN.nd rfl (Or.inl rfl) (by first | exact .inl rfl | exact .inr rfl | assumption)) (@pss_one _ _ _ (@ps_expr _ _ _ _ (@pe_bm _ _ _ _ _ _ _ _ _ _ _ _ PySem.F.plainAttrs_list PySem.F.slot_list_append PySem.F.type_list_append mt_append (@pv _ 11 _ _ (by rfl) (by first | exact Or.inl rfl | exact Or.inr (Or.inl rfl) | exact Or.inr (Or.inr rfl)) (by decide) (by decide)) (@pa_cons _ _ _ _ _ (@pe_bm _ _ _ _ _ _ _ _ _ _ _ _ PySem.F.plainAttrs_list PySem.F.slot_list_pop PySem.F.type_list_pop mt_popAt (@pv _ 10 _ _ (by rfl) (by first | exact Or.inl rfl | exact Or.inr (Or.inl rfl) | exact Or.inr (Or.inr rfl)) (by decide) (by decide)) (@pa_cons _ _ _ _ _ (@pe_op _ _ _ _ _ _ _ _ op_mul (@pe_call _ _ _ _ _ _ _ _ _ _ _ _ _ _ _ _ UK.ok hr (by rfl) UK.m UK.kp UK.b .nil pass0 (@pa_cons _ _ _ _ _ (@pv _ 0 _ _ (by rfl) (by first | exact Or.inl rfl | exact Or.inr (Or.inl rfl) | exact Or.inr (Or.inr rfl)) (by decide) (by decide)) (@pa_cons _ _ _ _ _ (@pe_callB _ _ _ _ _ _ _ _ _ call_len_seq (by rfl) G.len PySem.boot_len (@pa_cons _ _ _ _ _ (@pv _ 10 _ _ (by rfl) (by first | exact Or.inl rfl | exact Or.inr (Or.inl rfl) | exact Or.inr (Or.inr rfl)) (by decide) (by decide)) pa_nil (by rfl)) (by decide) (by decide) (by rfl) (by rfl)) pa_nil (by rfl)) (by rfl)) (by decide) (by rfl) (by rfl)) (@pe_callTy _ _ _ _ _ _ _ _ _ call_int1 (by rfl) G.int (by rfl) (@pa_cons _ _ _ _ _ (@pv _ 12 _ _ (by rfl) (by first | exact Or.inl rfl | exact Or.inr (Or.inl rfl) | exact Or.inr (Or.inr rfl)) (by decide) (by decide)) pa_nil (by rfl)) (by decide) (by decide) (by rfl) (by rfl))) pa_nil (by rfl)) (by rfl) (by rfl) (by rfl) (by rfl) (by rfl)) pa_nil (by rfl)) (by rfl) (by rfl) (by rfl) (by rfl) (by rfl)) (by rfl))) (by intro _; rfl)) (@pss_one _ _ _ (@ps_ret _ _ _ _ (@pe_tup _ _ _ _ _ (@pa_cons _ _ _ _ _ (@pv _ 3 _ _ (by rfl) (by first | exact Or.inl rfl | exact Or.inr (Or.inl rfl) | exact Or.inr (Or.inr rfl)) (by decide) (by decide)) (@pa_cons _ _ _ _ _ (@pe_callTy _ _ _ _ _ _ _ _ _ call_tuple_of (by rfl) G.tuple (by rfl) (@pa_cons _ _ _ _ _ (@pv _ 5 _ _ (by rfl) (by first | exact Or.inl rfl | exact Or.inr (Or.inl rfl) | exact Or.inr (Or.inr rfl)) (by decide) (by decide)) pa_nil (by rfl)) (by decide) (by decide) (by rfl) (by rfl)) (@pa_cons _ _ _ _ _ (@pe_callTy _ _ _ _ _ _ _ _ _ call_tuple_of (by rfl) G.tuple (by rfl) (@pa_cons _ _ _ _ _ (@pv _ 11 _ _ (by rfl) (by first | exact Or.inl rfl | exact Or.inr (Or.inl rfl) | exact Or.inr (Or.inr rfl)) (by decide) (by decide)) pa_nil (by rfl)) (by decide) (by decide) (by rfl) (by rfl)) pa_nil (by rfl)) (by rfl)) (by rfl)))))))))))), ?_⟩
  refine ⟨_, rfl, (by show 10 ≤ sizeLine; decide), fun p hp => ?_⟩
  have np := S.ne hp
  refine ⟨_, rfl, l, 10, n, rfl, by decide, by decide, S.upd np, by lia, fun v H1 v0 v1 S1 B1 => ?_⟩
  obtain ⟨v, rfl⟩ := Int.eq_ofNat_of_zero_le v0
  obtain ⟨lanes, lmem, hat⟩ := pick_at (xs := [1, 2, 2, 3, 4, 4, 5, 6, 8, 16]) (v := v) (by show v < 10; lia)
  have lb : ∀ n ∈ [1, 2, 2, 3, 4, 4, 5, 6, 8, 16], 1 ≤ n ∧ n ≤ 16 := by decide
  obtain ⟨l1, l16⟩ := lb lanes lmem
  have B1' : But l H H1 := (But.of (same_new hp _)).trans B1
  refine ⟨p, _, _, _, rfl, rfl, SqL.of (B1 p _ upd_same np.symm), hat, _, _, rfl, ?_⟩
  rw [show (if (lanes : Int) < 16 then (lanes : Int) else 16) = lanes from by split <;> lia]
  refine ⟨_, rfl, (by show 9 ≤ sizeLine; decide), fun p2 hp2 => ?_⟩
  have np2 := S1.ne hp2
  refine ⟨_, rfl, l, 9, n + 1, rfl, by decide, by decide, S1.upd np2, by lia, fun v2 H2 v20 v21 S2 B2 => ?_⟩
  obtain ⟨v2, rfl⟩ := Int.eq_ofNat_of_zero_le v20
  obtain ⟨fm, fmem, hat2⟩ := pick_at (xs := [0, 1, 2, 3, 5, 8, 12, 30, 128]) (v := v2) (by show v2 < 9; lia)
  have fb : ∀ n ∈ [0, 1, 2, 3, 5, 8, 12, 30, 128], n ≤ 128 := by decide
  have fb := fb fm fmem
  refine ⟨p2, _, _, _, rfl, rfl, SqL.of (B2 p2 _ upd_same np2.symm), hat2, _, _, rfl, ?_⟩
  obtain ⟨fl, fle, flm⟩ : ∃ fl : Nat, (if (fm : Int) < 30 then (fm : Int) else 30) = fl ∧ fl ≤ 30 := by
    by_cases z : (fm : Int) < 30
    · exact ⟨fm, if_pos z, by lia⟩
    · exact ⟨30, if_neg z, by lia⟩
  rw [fle]
  clear hat2 fb fmem fle
  generalize fl = fm at flm
  refine ⟨_, rfl, _, _, rfl, rfl, .inr ⟨_, rfl, _, _, rfl, rfl, .inl ⟨by lia, by lia⟩, ?_⟩⟩
  have cb : ((fm : Int) * (if decide ((1 : Int) < lanes) = true then 1 else 0)) = ((if 1 < lanes then fm else 0 : Nat) : Int) := by
    by_cases z : 1 < lanes
    · rw [if_pos (decide_eq_true (by lia)), if_pos z]; lia
    · rw [if_neg (by rw [decide_eq_false (by lia)]; exact Bool.false_ne_true), if_neg z]; lia
  have cl : (if 1 < lanes then fm else 0) ≤ 30 := by split <;> lia
  dsimp only
  rw [cb]
  generalize hcnt : (if 1 < lanes then fm else 0) = cnt at cl
  have B2' : But l H H2 := (B1'.new hp2).trans B2
  refine ⟨(by show 0 ≤ sizeLine; decide), fun lf hlf => ?_⟩
  have nlf := S2.ne hlf
  have flf := B2'.frs hlf
  refine ⟨_, rfl, _, rfl, by lia, by lia, ?_⟩
  refine for_range (lo := 0) (n := ((cnt : Nat) : Int).toNat) (fun i σ H4 => (∃ w6 w7 w8 w9 w10 w11 w12, σ = [some (.ref l), some (.int 16), some (.int 30), some (.int lanes), some (.int cnt), some (.ref lf), w6, w7, w8, w9, w10, w11, w12]) ∧ StAt H4 l (n + 2 + 3 * i) ∧ But l H H4 ∧ ∃ ps fs, H4 lf = some (.lst ps) ∧ Prs H4 ps fs ∧ fs.length = i ∧ ∀ f ∈ fs, f.1 < lanes ∧ f.2 < lanes ∧ f.1 ≠ f.2)
    ⟨⟨_, _, _, _, _, _, _, rfl⟩, S2.upd nlf, B2'.upd flf, [], [], upd_same, trivial, rfl, fun f hf => by simp at hf⟩ ?_ ?_
  · rintro i σ H4 hi ⟨⟨w6, w7, w8, w9, w10, w11, w12, rfl⟩, S4, B4, ps, fs, h4, p4, len, fok⟩
    have ic : i < cnt := by lia
    have l2 : 1 < lanes := by
      by_cases z : 1 < lanes
      · exact z
      · rw [if_neg z] at hcnt; lia
    refine ⟨_, rfl, _, rfl, l, lanes, _, rfl, by lia, by lia, S4, by lia, fun one H5 o0 o1 S5 B5 => ?_⟩
    obtain ⟨one, rfl⟩ := Int.eq_ofNat_of_zero_le o0
    have mx : (if ((lanes : Int) - 1) > 1 then ((lanes : Int) - 1) else 1) = (lanes : Int) - 1 := by split <;> lia
    refine ⟨_, rfl, _, _, rfl, rfl, _, rfl, _, rfl, _, _, rfl, rfl, _, _, rfl, l, _, _, rfl, by rw [mx]; lia, by rw [mx]; lia, S5, by lia, fun d H6 d0 d1 S6 B6 => ?_⟩
    obtain ⟨d, rfl⟩ := Int.eq_ofNat_of_zero_le d0
    rw [mx] at d1
    refine ⟨_, _, rfl, rfl, _, rfl, _, _, rfl, rfl, by lia, ?_⟩
    obtain ⟨ok1, ok2⟩ := other_ok (one := one) (d := d) (lanes := lanes) (by lia) (by lia)
    have ec : ((one : Int) + 1 + d) % lanes = (((one + 1 + d) % lanes : Nat) : Int) := by rw [Int.natCast_emod, Int.natCast_add, Int.natCast_add]; rfl
    dsimp only
    rw [ec]
    generalize (one + 1 + d) % lanes = oth at *
    refine ⟨_, rfl, l, 5, _, rfl, by decide, by decide, S6, by lia, fun way H7 w0 w1 S7 B7 => ?_⟩
    obtain ⟨way, rfl⟩ := Int.eq_ofNat_of_zero_le w0
    have B7' : But l H H7 := ((B4.trans B5).trans B6).trans B7
    have T7 : Tups H4 H7 := ((tups_but B5 S4).trans (tups_but B6 S5)).trans (tups_but B7 S6)
    have h7 : H7 lf = some (.lst ps) := B7 lf _ (B6 lf _ (B5 lf _ h4 nlf.symm) nlf.symm) nlf.symm
    have p7 := p4.tups T7
    have pl := p4.len
    have szp : ps.length < sizeLine := by rw [pl, len]; exact Nat.lt_of_lt_of_le (show i < 1000 by lia) (by decide)
    have S7' : StAt H7 l (n + 2 + 3 * (i + 1)) := S7.mono (by lia)
    have fin : ∀ (a b : Nat) (H8 : Hp) (t : Addr), Same H7 H8 → (a < lanes ∧ b < lanes ∧ a ≠ b) → H8 t = none →
        L2.upd H8 t (.tup [.int a, .int b]) lf = some (.lst ps) ∧ (StAt (L2.upd (L2.upd H8 t (.tup [.int a, .int b])) lf (.lst (ps ++ [.ref t]))) l (n + 2 + 3 * (i + 1)) ∧ But l H (L2.upd (L2.upd H8 t (.tup [.int a, .int b])) lf (.lst (ps ++ [.ref t]))) ∧ ∃ ps2 fs2, (L2.upd (L2.upd H8 t (.tup [.int a, .int b])) lf (.lst (ps ++ [.ref t]))) lf = some (.lst ps2) ∧ Prs (L2.upd (L2.upd H8 t (.tup [.int a, .int b])) lf (.lst (ps ++ [.ref t]))) ps2 fs2 ∧ fs2.length = i + 1 ∧ ∀ f ∈ fs2, f.1 < lanes ∧ f.2 < lanes ∧ f.1 ≠ f.2) := by
      intro a b H8 t s8 ok8 ht
      have s9 := s8.trans (same_new ht (.tup [.int a, .int b]))
      have h9 := s9 _ _ h7
      refine ⟨h9, (S7'.keep s9).upd nlf, (B7'.trans (But.of s9)).upd flf, ps ++ [.ref t], fs ++ [(a, b)], upd_same, ((p7.tups (Tups.of s9)).tups (Tups.lst h9)).add (Tups.lst h9 _ _ upd_same), by simp [len], fun f hf => ?_⟩
      rcases List.mem_append.mp hf with z | z
      · exact fok f z
      · rw [List.mem_singleton.mp z]; exact ok8
    refine ⟨_, rfl, rfl, _, rfl, ?_⟩
    by_cases e0 : way = 0
    · subst e0
      rw [show decide (V.int ((0 : Nat) : Int) = V.int 0) = true from decide_eq_true rfl]
      refine iteT ⟨_, rfl, (by show 0 ≤ sizeLine; decide), fun e he => ?_⟩
      have s8 := same_new he (.lst [])
      have h8 := s8 _ _ h7
      refine ⟨lf, e, ps, rfl, rfl, SqL.of h8, SqL.of upd_same, _, rfl, ?_⟩
      by_cases hps : ps = []
      · rw [show (!ps.isEmpty) = false by rw [hps]; rfl]
        refine iteF ⟨_, rfl, rfl, _, rfl, ?_⟩
        rw [show decide (V.int ((0 : Nat) : Int) = V.int 1) = false from decide_eq_false (by intro z; exact absurd (V.int.inj z) (by decide))]
        refine iteF ⟨_, rfl, .inl ⟨rfl, _, SqL.of h8⟩, _, rfl, _, rfl, (by show 2 ≤ sizeLine; decide), fun t ht => ?_⟩
        obtain ⟨g1, g2⟩ := fin one oth _ t s8 ⟨by lia, ok1, ok2⟩ ht
        exact ⟨lf, _, _, rfl, rfl, g1, szp, ⟨_, _, _, _, _, _, _, rfl⟩, g2⟩
      · obtain ⟨qs0, a, gs, fk, eps, efs, hfa⟩ := (p7.tups (Tups.of s8)).last hps
        have okf := fok fk (by rw [efs]; simp)
        rw [show (!ps.isEmpty) = true by rw [eps]; simp]
        refine iteT ⟨_, rfl, _, rfl, lf, _, _, _, rfl, rfl, SqL.of h8, (by rw [eps]; exact atI_last _ _), a, _, rfl, SqT.of hfa, rfl, _, _, rfl, _, _, rfl, rfl, ?_⟩
        refine ⟨_, rfl, rfl, _, rfl, ?_⟩
        rw [show decide (V.int ((0 : Nat) : Int) = V.int 1) = false from decide_eq_false (by intro z; exact absurd (V.int.inj z) (by decide))]
        refine iteF ⟨_, rfl, .inl ⟨rfl, _, SqL.of h8⟩, _, rfl, _, rfl, (by show 2 ≤ sizeLine; decide), fun t ht => ?_⟩
        obtain ⟨g1, g2⟩ := fin fk.1 fk.2 _ t s8 okf ht
        exact ⟨lf, _, _, rfl, rfl, g1, szp, ⟨_, _, _, _, _, _, _, rfl⟩, g2⟩
    rw [show decide (V.int (way : Int) = V.int 0) = false from decide_eq_false (by intro z; exact e0 (by have := V.int.inj z; lia))]
    refine iteF (iteF ⟨_, rfl, rfl, _, rfl, ?_⟩)
    by_cases e1 : way = 1
    · subst e1
      rw [show decide (V.int ((1 : Nat) : Int) = V.int 1) = true from decide_eq_true rfl]
      refine iteT ⟨_, rfl, _, rfl, _, _, rfl, rfl, by lia, _, rfl, _, _, rfl, rfl, _, rfl, _, _, rfl, rfl, by lia, _, _, rfl, ?_⟩
      dsimp only
      rw [Int.zero_add]
      have ea : ((i : Int) % lanes) = ((i % lanes : Nat) : Int) := (Int.natCast_emod _ _).symm
      have eb : (((i : Int) + 1) % lanes) = (((i + 1) % lanes : Nat) : Int) := by rw [Int.natCast_emod, Int.natCast_add]; rfl
      rw [ea, eb]
      refine ⟨_, rfl, .inl ⟨rfl, _, SqL.of h7⟩, _, rfl, _, rfl, (by show 2 ≤ sizeLine; decide), fun t ht => ?_⟩
      have nei : i % lanes ≠ (i + 1) % lanes := by
        have h1 := Nat.mod_lt i (show 0 < lanes by lia)
        rw [← Nat.mod_add_mod]
        have := (other_ok (one := i % lanes) (d := 0) (lanes := lanes) h1 (by lia)).2
        simpa using this
      obtain ⟨g1, g2⟩ := fin (i % lanes) ((i + 1) % lanes) _ t (Same.refl _) ⟨Nat.mod_lt _ (by lia), Nat.mod_lt _ (by lia), nei⟩ ht
      exact ⟨lf, _, _, rfl, rfl, g1, szp, ⟨_, _, _, _, _, _, _, rfl⟩, g2⟩
    rw [show decide (V.int (way : Int) = V.int 1) = false from decide_eq_false (by intro z; exact e1 (by have := V.int.inj z; lia))]
    refine iteF ⟨_, rfl, .inl ⟨rfl, _, SqL.of h7⟩, _, rfl, _, rfl, (by show 2 ≤ sizeLine; decide), fun t ht => ?_⟩
    obtain ⟨g1, g2⟩ := fin one oth _ t (Same.refl _) ⟨by lia, ok1, ok2⟩ ht
    exact ⟨lf, _, _, rfl, rfl, g1, szp, ⟨_, _, _, _, _, _, _, rfl⟩, g2⟩
  rintro σ H4 ⟨⟨w6, w7, w8, w9, w10, w11, w12, rfl⟩, S4, B4, ps, fs, h4, p4, len, fok⟩
  refine ⟨_, rfl, lanes, rfl, by lia, fun ll hll => ?_⟩
  have nll := S4.ne hll
  have sl := same_new hll (if true = true then HO.lst (upTo lanes) else .tup (upTo lanes))
  refine ⟨(by show 0 ≤ sizeLine; decide), fun le hle => ⟨_, _, rfl, ?_⟩⟩
  have sle := same_new hle (.lst [])
  have nle := (S4.keep sl).ne hle
  have nel : ll ≠ le := ne_of_none upd_same hle
  have nfl : lf ≠ ll := ne_of_none h4 hll
  have nfe : lf ≠ le := ne_of_none (sl _ _ h4) hle
  have B5 : But l H _ := B4.trans (But.of (sl.trans sle))
  have fll := B4.frs hll
  have fle := (B4.new hll).frs hle
  refine ⟨_, rfl, l, 2, _, rfl, by decide, by decide, S4.keep (sl.trans sle), by lia, fun v3 H6 v30 v31 S6 B6 => ?_⟩
  refine ⟨rfl, _, rfl, lanes, rfl, by lia, by lia, ?_⟩
  have T6 : Tups H4 H6 := (Tups.of (sl.trans sle)).trans (tups_but B6 (S4.keep (sl.trans sle)))
  have hL6 : H6 ll = some (.lst (nums (List.range lanes))) := B6 ll _ (sle _ _ upd_same) nll.symm
  have hE6 : H6 le = some (.lst []) := B6 le _ upd_same nle.symm
  have hF6 : H6 lf = some (.lst ps) := B6 lf _ (sle _ _ (sl _ _ h4)) nlf.symm
  generalize hsh : decide (V.int v3 = V.int 0) = sh
  refine for_range (lo := 0) (n := ((lanes : Nat) : Int).toNat) (fun i σ H7 => (∃ w6, σ = [some (.ref l), some (.int 16), some (.int 30), some (.int lanes), some (.int cnt), some (.ref lf), w6, w7, w8, w9, some (.ref ll), some (.ref le), some (.bl sh)]) ∧ StAt H7 l (n + 2 + 3 * cnt + 1 + i) ∧ But l H H7 ∧ Tups H6 H7 ∧ H7 lf = some (.lst ps) ∧ ∃ es ls : List Nat, H7 le = some (.lst (nums es)) ∧ H7 ll = some (.lst (nums ls)) ∧ es.length = i ∧ (es ++ ls).Perm (List.range lanes))
    ⟨⟨_, rfl⟩, S6.mono (by lia), B5.trans B6, Tups.refl _, hF6, [], List.range lanes, hE6, hL6, rfl, .refl _⟩ ?_ ?_
  · rintro i σ H7 hi ⟨⟨w6, rfl⟩, S7, B7, T7, hF7, es, ls, hE7, hL7, el, pe⟩
    have il : i < lanes := by lia
    have lsl : es.length + ls.length = lanes := by have := pe.length_eq; rwa [List.length_append, List.length_range] at this
    refine ⟨_, rfl, .inl ⟨rfl, _, SqL.of hE7⟩, _, rfl, .inl ⟨rfl, _, SqL.of hL7⟩, _, rfl, _, rfl, ll, _, rfl, .inl (SqL.of hL7), l, _, _, rfl, by rw [nums_len]; lia, by rw [nums_len]; lia, S7, by lia, fun v4 H8 v40 v41 S8 B8 => ?_⟩
    obtain ⟨v4, rfl⟩ := Int.eq_ofNat_of_zero_le v40
    rw [nums_len] at v41
    refine ⟨_, rfl, .inr ⟨sh, rfl, _, _, rfl, rfl, .inl ⟨by lia, by lia⟩, ?_⟩⟩
    have ei : ((v4 : Int) * (if sh = true then 1 else 0)) = ((if sh = true then v4 else 0 : Nat) : Int) := by cases sh <;> simp
    dsimp only
    rw [ei]
    generalize hkk : (if sh = true then v4 else 0) = kk
    have kl : kk < ls.length := by rw [← hkk]; split <;> lia
    have hL8 := B8 ll _ hL7 nll.symm
    have hE8 := B8 le _ hE7 nle.symm
    have hF8 := B8 lf _ hF7 nlf.symm
    refine ⟨ll, _, _, kk, .int ls[kk], rfl, rfl, hL8, by lia, by lia, ?_, ?_, ?_⟩
    · have := (ixN_seq (ix_at (xs := nums ls) (i := kk) (by rw [nums_len]; exact kl))).1; exact this
    · unfold nums; rw [List.getElem?_map, List.getElem?_eq_getElem kl]; rfl
    have T8 := (T7.trans (tups_but B8 S7)).trans (Tups.lst (ys := (nums ls).eraseIdx kk) hL8)
    have hE9 : L2.upd H8 ll (.lst ((nums ls).eraseIdx kk)) le = some (.lst (nums es)) := by rw [upd_ne nel.symm]; exact hE8
    refine ⟨le, _, _, rfl, rfl, hE9, by rw [nums_len, el]; exact Nat.lt_of_lt_of_le (show i < 1000 by lia) (by decide), ⟨_, rfl⟩, ((S8.upd nll).upd nle).mono (by lia), ((B7.trans B8).upd fll).upd fle, T8.trans (Tups.lst hE9), ?_, es ++ [ls[kk]], ls.eraseIdx kk, ?_, ?_, by simp [el], ?_⟩
    · rw [upd_ne nfe, upd_ne nfl]; exact hF8
    · rw [upd_same]; unfold nums; rw [List.map_append]; rfl
    · rw [upd_ne nel, upd_same, nums_erase]
    · rw [List.append_assoc]
      exact ((erase_perm kl).append_left es).trans pe
  rintro σ H7 ⟨⟨w6, rfl⟩, S7, B7, T7, hF7, es, ls, hE7, hL7, el, pe⟩
  have tn : ((lanes : Nat) : Int).toNat = lanes := by lia
  have tc : ((cnt : Nat) : Int).toNat = cnt := by lia
  rw [tn] at S7 el
  rw [tc] at len
  have l0 : ls = [] := by
    have := pe.length_eq
    rw [List.length_append, List.length_range] at this
    exact List.length_eq_zero_iff.mp (by lia)
  rw [l0, List.append_nil] at pe
  have p7 := (p4.tups T6).tups T7
  refine ⟨_, rfl, _, rfl, lf, _, rfl, .inl ⟨SqL.of hF7, fun fr hfr => ?_⟩⟩
  have s1 := same_new hfr (.tup ps)
  refine ⟨_, rfl, le, _, rfl, .inl ⟨SqL.of (s1 _ _ hE7), fun er her => ?_⟩⟩
  have s2 := same_new her (.tup (nums es))
  refine ⟨(by show 3 ≤ sizeLine; decide), fun r hr' => ?_⟩
  have s3 := same_new hr' (.tup [.int lanes, .ref fr, .ref er])
  have s123 := (s1.trans s2).trans s3
  exact k r fr er ps ⟨lanes, fs, es⟩ _ ⟨l1, l16, by show fs.length ≤ 128; lia, fok, pe⟩ (by show fs.length ≤ 30; lia) ⟨upd_same, s3 _ _ (s2 _ _ upd_same), p7.tups (Tups.of s123), s3 _ _ upd_same⟩ ((S7.keep s123).mono (by lia)) (B7.trans (But.of s123))
end
end K26
end
section
set_option maxHeartbeats 4000001
namespace K26
open PySem L2 Own Bn
theorem Few.start {S : Tst} {j : Nat} (f : Few S j) (o : Option (Nat × Nat)) : Few { S with spots := S.spots ++ [o] } (j + 1) :=
  ⟨by show (S.spots ++ [o]).length ≤ _; rw [List.length_append]; have := f.f1; show S.spots.length + 1 ≤ _; lia, Nat.le_succ_of_le f.f2, fun x hx => Nat.le_succ_of_le (f.f3 x hx)⟩
theorem Few.go {N : Nt} {S : Tst} {j ball k k' : Nat} (f : Few S j) : Few (goT N S ball k k') (j + 1) :=
  ⟨by show (S.spots.set _ _).length ≤ _; rw [List.length_set]; exact Nat.le_succ_of_le f.f1, Nat.le_succ_of_le f.f2, fun x hx => Nat.le_succ_of_le (f.f3 x hx)⟩
theorem Few.out {N : Nt} {S : Tst} {j ball lane : Nat} (f : Few S j) : Few (outT N S ball lane) (j + 1) := by
  refine ⟨by show (S.spots.set _ _).length ≤ _; rw [List.length_set]; exact Nat.le_succ_of_le f.f1, ?_, fun x hx => ?_⟩
  · show (S.nms ++ [_]).length ≤ _
    rw [List.length_append]; have := f.f2; show S.nms.length + 1 ≤ _; lia
  · rcases mem_set hx with z | z
    · exact Nat.le_succ_of_le (f.f3 x z)
    · rw [z, List.getD_eq_getElem?_getD]
      cases e : S.came[endN N lane]? with
      | none => show 0 + 1 ≤ _; lia
      | some y => have := f.f3 y (List.mem_of_getElem? e); show y + 1 ≤ _; lia
theorem Duo.take {C : Addr} {H H' : Hp} {A : Tad} {B : KAd} {N : Nt} {S : Tst} {l : Addr} {n : Nat} (d : Duo C H A B N S) (b : But l H H') (s : StAt H l n) (h : l ∉ mineA A ++ mineB B) : Duo C H' A B N S :=
  d.butM (ButM.one b) s.mut fun x hx z => h (List.mem_singleton.mp z ▸ hx)
end K26
end
section
set_option maxHeartbeats 4000001
namespace L2
open PySem PySem.Spec PyProof.Rows Own Builtin Builtin.Str
section
variable {X : Cx}
end
end L2
end
section
set_option maxHeartbeats 4000001
namespace L2
open PySem PySem.Spec PyProof.Rows Own Builtin Builtin.Str
section
variable {X : Cx} {tg : Expr}
end
end L2
end
section
set_option maxHeartbeats 4000001
namespace Bn
open PySem PySem.Spec PyProof.Rows PySem.NumText
def txt (n : Int) : Str := Str.ofString (toString n)
open Builtin Builtin.Str
end Bn
namespace L2
open PySem PySem.Spec PyProof.Rows Own PySem.NumText
section
variable {X : Cx}
end
end L2
end
section
set_option maxHeartbeats 4000001
namespace L2
open PySem PySem.Spec PyProof.Rows Own
section
variable {prog : Program} {w : World} {A : Around} {E : Value → Shared → Prop} {l : Addr} {items : Array Value}
end
section
variable {X : Cx}
abbrev TF := Str → St → Hp → (Str → Hp → Prop) → Prop
def PFs (X : Cx) (es : List Expr) (t : TF) : Prop := ∀ (out : Str) (pins : List (Addr × Obj)) (s : Shared) (σ : St) (H : Hp) (Q : Str → Hp → Prop), out.length ≤ sizeLine → Inv X pins σ H s → t out σ H Q →
  wpAny (model X.prog X.w) X.A (joinParts out (evalEach es X.env)) (EP X pins σ fun v H' => ∃ z, v = .str z ∧ Q z H') X.xe s
def fNil : TF := fun out _ H Q => Q out H
def fStr (x : Str) (r : TF) : TF := fun out σ H Q => out.length + x.length ≤ sizeLine ∧ r (out ++ x) σ H Q
def fInt (te : TE) (r : TF) : TF := fun out σ H Q => te σ H fun v H1 => ∃ i : Int, v = .int i ∧ i.natAbs.log2 < 1920 ∧ out.length + (Bn.txt i).length ≤ sizeLine ∧ r (out ++ Bn.txt i) σ H1 Q
theorem pfs_nil : PFs X [] fNil := fun out pins s σ H Q hz I q => joinParts_nil ⟨.str out, H, I.tok _, ⟨_, rfl⟩, out, rfl, q⟩ hz
theorem pfs_str {x : Str} {j p} {es : List Expr} {t : TF} (h : PFs X es t) : PFs X (.Constant (.str x) j p :: es) (fStr x t) := by
  intro out pins s σ H Q hz I ⟨hl, q⟩
  refine joinParts_cons (Calls.Constant_str ?_)
  have e : (out ++ x).length ≤ sizeLine := by rw [Str.length_append]; exact hl
  exact ⟨e, h _ pins _ σ H Q e (I.tok _) q⟩
theorem pfs_int {e : Expr} {te : TE} {p : Pos} {es : List Expr} {t : TF} (he : PE X e te) (h : PFs X es t) : PFs X (.FormattedValue e (-1) none p :: es) (fInt te t) := by
  intro out pins s σ H Q hz I q
  refine joinParts_cons (FormattedValue_plain (thn (he pins s σ H _ I q) fun u s1 ⟨v, H1, I1, r1, i, ev, hd, hl, q1⟩ => ?_))
  subst ev
  obtain ⟨tk, rfl⟩ := r1
  refine formatField_int_small hd ?_
  have e : (out ++ Bn.txt i).length ≤ sizeLine := by rw [Str.length_append]; exact hl
  exact ⟨e, h _ pins _ σ H1 Q e (I1.tok _) q1⟩
theorem pe_fstr {e1 e2 : Expr} {es : List Expr} {pos : Pos} {t : TF} (h : PFs X (e1 :: e2 :: es) t) : PE X (.JoinedStr (e1 :: e2 :: es) pos) (fun σ H Q => t Str.empty σ H fun z H' => Q (.str z) H') := by
  intro pins s σ H Q I q
  refine JoinedStr_many (thn (h Str.empty pins s σ H _ (Nat.zero_le _) I q) fun u s1 ⟨v, H1, I1, r1, z, ev, q1⟩ => ?_)
  subst ev
  exact ⟨_, H1, I1, r1, q1⟩
end
end L2
end
section
set_option maxHeartbeats 4000001
namespace Bn
open PySem L2 Own
section
variable {H0 H : Hp} {l d lt lg lo : Addr} {qa : List Addr} {ts os : List Int} {gs : List Grp}
end
end Bn
end
section
set_option maxHeartbeats 4000001
namespace L2
open PySem Own
section
variable {X : Cx}
end
end L2
end
section
set_option maxHeartbeats 4000001
namespace L2
open PySem Own PyProof.Rows PySem.Spec
section
variable {X : Cx}
end
end L2
namespace Bn
open PySem L2 Own
abbrev Sn := List Int × List Grp × List Int
abbrev Sn.none (N : Nt) : Sn := (List.replicate N.forks.length 0, [], List.replicate N.lanes 0)
section
variable {H0 H H' : Hp} {l d lt lg lo : Addr} {qa qa' : List Addr} {ts os ts' os' : List Int} {gs gs' : List Grp}
end
end Bn
end
section
set_option maxHeartbeats 4000001
namespace L2
open PySem PySem.Spec PyProof.Rows
def FlyT (e T : Addr) (cls : Value) (dx : Option Addr) (fl : Value) (h : Heap) : Prop :=
  ∃ oe vs oT ts, h.get? e = some oe ∧ (oe.cls = cls ∧ oe.dict = dx) ∧ oe.data = .fields vs ∧ vs[1]? = some (.ref T) ∧ T ≠ e ∧ h.get? T = some oT ∧ oT.data = .fields ts ∧ ts[3]? = some fl
structure Stp (fs : List Addr) (Z : Addr → Prop) (h h' : Heap) : Prop where
  keep : ∀ b o, h.get? b = some o → ¬ Z b → b ∉ fs → h'.get? b = some o
  slot : ∀ b o, h.get? b = some o → ¬ Z b → ∃ sl, h'.get? b = some { o with slots := sl }
  there : ∀ b o, h.get? b = some o → ∃ o', h'.get? b = some o'
theorem Stp.trans {fs : List Addr} {Z : Addr → Prop} {h h1 h2 : Heap} (x : Stp fs Z h h1) (y : Stp fs Z h1 h2) : Stp fs Z h h2 :=
  ⟨fun b o e z f => y.keep b o (x.keep b o e z f) z f, fun b o e z => by
    obtain ⟨sl, q⟩ := x.slot b o e z
    obtain ⟨sl', q'⟩ := y.slot b _ q z
    exact ⟨sl', q'⟩, fun b o e => by
    obtain ⟨o1, q⟩ := x.there b o e
    exact y.there b o1 q⟩
theorem Stp.mono {fs fs' : List Addr} {Z Z' : Addr → Prop} {h h' : Heap} (x : Stp fs Z h h') (hf : ∀ b ∈ fs, b ∈ fs') (hz : ∀ b o, h.get? b = some o → Z b → Z' b) : Stp fs' Z' h h' :=
  ⟨fun b o e z f => x.keep b o e (fun q => z (hz b o e q)) fun q => f (hf b q), fun b o e z => x.slot b o e fun q => z (hz b o e q), x.there⟩
theorem Stp.frames {fs : List Addr} {Z : Addr → Prop} {h h' B : Heap} {l : List Env} (x : Stp fs Z h h') (hz : ∀ b o, h.get? b = some o → Z b → ∃ vs, o.data = .fields vs) (hl : h.FunFrames B l) : h'.FunFrames B l :=
  hl.of_keeps fun b o e nf => by
    obtain ⟨sl, q⟩ := x.slot b o e fun z => by
      obtain ⟨vs, d⟩ := hz b o e z
      exact nf vs d
    exact ⟨_, q, rfl⟩
theorem FlyT.fields {e T : Addr} {cls : Value} {dx : Option Addr} {fl : Value} {h : Heap} (x : FlyT e T cls dx fl h) : ∀ b o, h.get? b = some o → (b = e ∨ b = T) → ∃ vs, o.data = .fields vs := by
  obtain ⟨oe, vs, oT, ts, he, _, hd, _, _, hT, hdT, _⟩ := x
  rintro b o q (rfl | rfl)
  · rw [he] at q; exact ⟨vs, Option.some.inj q ▸ hd⟩
  · rw [hT] at q; exact ⟨ts, Option.some.inj q ▸ hdT⟩
theorem put_at {h : Heap} {a : Addr} {c : Value} {d : Option Addr} {vs : Array Value} {sl : Array (Option Value)} (i : Nat) (x : Value) (q : h.get? a = some ⟨c, d, .fields vs, sl⟩) : (h.update a (Obj.mapFields (·.setIfInBounds i x))).get? a = some ⟨c, d, .fields (vs.setIfInBounds i x), sl⟩ := Heap.get?_update_self _ q rfl
theorem put_ne {h : Heap} {a b : Addr} {f : Obj → Obj} (n : b ≠ a) : (h.update a f).get? b = h.get? b := Heap.get?_update_other _ _ (Ne.symm n)
theorem put_stp {h : Heap} {a : Addr} {o : Obj} {c : Value} {d : Option Addr} {vs : Array Value} {sl : Array (Option Value)} (i : Nat) (x : Value) (q : h.get? a = some ⟨c, d, .fields vs, sl⟩) : Stp [] (fun b => b = a) h (h.update a (Obj.mapFields (·.setIfInBounds i x))) :=
  ⟨fun b o e z _ => (put_ne z).trans e, fun b o e z => ⟨o.slots, (put_ne z).trans e⟩, fun b o e => by
    by_cases z : b = a
    · rw [z]; exact ⟨_, put_at i x q⟩
    · exact ⟨o, (put_ne z).trans e⟩⟩
theorem land {M : Model} {A : Around} {E : Value → Shared → Prop} {s : Shared} {e T : Addr} {cls fl : Value} {dx : Option Addr} {Q : Unit → Shared → Prop} (x : FlyT e T cls dx fl s.heap)
    (h : ∀ h', Stp [] (fun b => b = T) s.heap h' → FlyT e T cls dx .none h' → Q () { s with heap := h' }) : wpAny M A (setFlight (.ref e) none) Q E s := by
  obtain ⟨oe, vs, ⟨cT, dT, _, slT⟩, ts, he, hc, hd, h1, ne, hT, rfl, h3⟩ := x
  have sz : 3 < ts.size := (Array.getElem?_eq_some_iff.mp h3).1
  refine wpAny_setFlight_none he hd h1 hT rfl sz (h _ (put_stp (o := oe) 3 .none hT) ⟨oe, vs, _, ts.setIfInBounds 3 .none, (put_ne (Ne.symm ne)).trans he, hc, hd, h1, ne, put_at 3 .none hT, rfl, ?_⟩)
  rw [Array.getElem?_setIfInBounds_self, if_pos sz]
theorem entry_new {M : Model} {A : Around} {E : Value → Shared → Prop} {s : Shared} {B : Heap} {env : Env} {outer : List Env} {L e : Addr} {c : Value} {d : Option Addr} {vs : Array Value} {sl : Array (Option Value)} {head : Value} {hn : Bool} {Q : Unit → Shared → Prop}
    (hfr : A.frames = some (env :: outer)) (hl : s.heap.FunFrames B (env :: outer)) (hf : env.frame = some L) (he : s.heap.get? e = some ⟨c, d, .fields vs, sl⟩) (hz : 1 < vs.size)
    (h : ∀ h' T, Stp (frs (env :: outer)) (fun b => b = e) s.heap h' → s.heap.objs.size ≤ T → FlyT e T c d (rawInt L) h' → Q () { s with heap := h' }) :
    wpAny M A (do let a ← frameOf env; let pl ← entryPlaceOf L hn; let b ← EntryCells.newEntry head a .none (rawInt L) .none pl; setField (.ref e) 1 b) Q E s := by
  have nfr : e ∉ frs (env :: outer) := fun z => by
    obtain ⟨_, o, ho, nf⟩ := hl.mem z
    rw [he] at ho
    cases ho
    exact nf vs rfl
  refine wpAny_bind (wpAny_frameOf_fun hfr hl hf fun h1 ⟨z1, k1, sl1⟩ => wpAny_bind (wpAny_entryPlaceOf fun pl hpl => ?_))
  have he1 : h1.get? e = some ⟨c, d, .fields vs, sl⟩ := (k1 e nfr).trans he
  have lt : e < h1.objs.size := Heap.lt_size he1
  refine wpAny_bind ?_
  refine (show wpAny M A (newFields _ _) _ _ _ from wpAny_newObj_type ?_ ?_)
  · have he2 := Heap.get?_push_of_some { cls := .type "traceback", dict := none, data := .fields ([head, .ref L, .none, rawInt L, .none] ++ if pl.isEmpty = true then List.replicate 6 .none else pl).toArray } he1
    have hT2 : (h1.push { cls := .type "traceback", dict := none, data := .fields ([head, .ref L, .none, rawInt L, .none] ++ if pl.isEmpty = true then List.replicate 6 .none else pl).toArray }).get? h1.objs.size = _ := Heap.get?_push_size _ rfl
    refine wpAny_setField he2 rfl hz (h _ h1.objs.size ?_ (by rw [z1]; exact Nat.le_refl _) ⟨_, _, _, _, put_at 1 _ he2, ⟨rfl, rfl⟩, rfl, ?_, Ne.symm (Nat.ne_of_lt lt), (put_ne (Ne.symm (Nat.ne_of_lt lt))).trans hT2, rfl, ?_⟩)
    · refine Stp.trans (h1 := h1.push _) ⟨fun b o q z nf => Heap.get?_push_of_some _ ((k1 b nf).trans q), fun b o q z => ?_, fun b o q => ?_⟩ ((put_stp (o := ⟨c, d, .fields vs, sl⟩) 1 _ he2).mono (fun _ z => nomatch z) fun _ _ _ z => z)
      · obtain ⟨s', q'⟩ := sl1 b o q
        exact ⟨s', Heap.get?_push_of_some _ q'⟩
      · obtain ⟨s', q'⟩ := sl1 b o q
        exact ⟨_, Heap.get?_push_of_some _ q'⟩
    · rw [Array.getElem?_setIfInBounds_self, if_pos hz]
    · simp
  · show (_ : Array Value).size ≤ sizeLine + 2
    rcases hpl with rfl | ⟨_, _, _, _, _, _, _, rfl⟩ <;> (rw [sizeLine_eq]; show (11 : Nat) ≤ 16777218; decide)
theorem note_made {M : Model} {A : Around} {E : Value → Shared → Prop} {s : Shared} {B : Heap} {env : Env} {outer : List Env} {L e : Addr} {oe : Obj} {vs : Array Value} {Q : Unit → Shared → Prop}
    (hfr : A.frames = some (env :: outer)) (hl : s.heap.FunFrames B (env :: outer)) (hf : env.frame = some L) (he : s.heap.get? e = some oe) (hd : oe.data = .fields vs) (h1 : vs[1]? = some .none)
    (h : ∀ h' T, Stp (frs (env :: outer)) (fun b => b = e) s.heap h' → s.heap.objs.size ≤ T → FlyT e T oe.cls oe.dict (rawInt L) h' → Q () { s with heap := h' }) : wpAny M A (noteFrame (.ref e) env) Q E s := by
  obtain ⟨c, d, _, sl⟩ := oe
  obtain rfl := hd
  have hz : 1 < vs.size := (Array.getElem?_eq_some_iff.mp h1).1
  unfold noteFrame
  rw [hf]
  refine wpAny_bind (wpAny_field he rfl h1 ?_)
  exact entry_new hfr hl hf he hz h
theorem note_fly {M : Model} {A : Around} {E : Value → Shared → Prop} {s : Shared} {B : Heap} {env : Env} {outer : List Env} {L e T0 : Addr} {cls : Value} {dx : Option Addr} {Q : Unit → Shared → Prop}
    (hfr : A.frames = some (env :: outer)) (hl : s.heap.FunFrames B (env :: outer)) (hf : env.frame = some L) (x : FlyT e T0 cls dx .none s.heap)
    (h : ∀ h' T, Stp (frs (env :: outer)) (fun b => b = e ∨ b = T0) s.heap h' → s.heap.objs.size ≤ T → FlyT e T cls dx (rawInt L) h' → Q () { s with heap := h' }) : wpAny M A (noteFrame (.ref e) env) Q E s := by
  have xf := x.fields
  obtain ⟨⟨ce, de, _, sle⟩, vs, ⟨cT, dT, _, slT⟩, ts, he, ⟨rfl, rfl⟩, rfl, h1, ne, hT, rfl, h3⟩ := x
  have hz : 1 < vs.size := (Array.getElem?_eq_some_iff.mp h1).1
  have sz : 3 < ts.size := (Array.getElem?_eq_some_iff.mp h3).1
  have st : Stp [] (fun b => b = T0) s.heap (s.heap.update T0 (Obj.mapFields (·.setIfInBounds 3 .none))) := put_stp (o := ⟨ce, de, .fields vs, sle⟩) 3 .none hT
  unfold noteFrame
  rw [hf]
  refine wpAny_bind (wpAny_field he rfl h1 ?_)
  show wpAny M A (if (Value.ref T0 != Value.none) = true then _ else _) Q E s
  rw [if_pos (by rfl)]
  refine wpAny_bind (wpAny_field hT rfl h3 ?_)
  show wpAny M A (if (Value.none == rawInt L) = true then _ else _) Q E s
  rw [if_neg (by intro z; cases z)]
  refine wpAny_bind (wpAny_setField hT rfl sz ?_)
  have he2 := (put_ne (f := Obj.mapFields (·.setIfInBounds 3 .none)) (Ne.symm ne)).trans he
  have hl2 := st.frames (fun b o q z => xf b o q (.inr z)) hl
  refine entry_new (s := { s with heap := s.heap.update T0 (Obj.mapFields (·.setIfInBounds 3 .none)) }) hfr hl2 hf he2 hz fun h' T st2 lT fl => h h' T ?_ ?_ fl
  · exact (st.mono (fun _ z => nomatch z) fun _ _ _ z => .inr z).trans (st2.mono (fun _ z => z) fun _ _ _ z => .inl z)
  · rw [Heap.size_update] at lT; exact lT
end L2
end
section
set_option maxHeartbeats 4000001
namespace L2
open PySem PySem.Spec PyProof.Rows
def CX1 (P : Program) (w : World) : CXT := fun outer H s E e s' => ∃ (ea T : Addr) (cls : Value) (dx : Option Addr) (H' : Hp), e = .ref ea ∧ s'.os = s.os ∧ AllBare s'.gens ∧ Un (frs outer) [] H H' s.heap s'.heap ∧ HOk P w H' s'.heap ∧
  FlyT ea T cls dx .none s'.heap ∧ (s.heap.get? ea = none ∧ s.heap.get? T = none) ∧ (H' ea = none ∧ H' T = none) ∧ E cls dx H'
theorem Un.stp {fs fs' : List Addr} {Z : Addr → Prop} {H0 H : Hp} {g h h' : Heap} (u : Un fs [] H0 H g h) (x : Stp fs' Z h h') (hz : ∀ b, Z b → g.get? b = none) (hf : ∀ b o, g.get? b = some o → b ∈ fs' → b ∈ fs) : Un fs [] H0 H g h' := by
  have nz : ∀ b o, g.get? b = some o → ¬ Z b := fun b o q z => by rw [hz b z] at q; cases q
  refine ⟨fun b o q n nf _ => x.keep b o (u.keep b o q n nf (by simp)) (nz b o q) fun z => nf (hf b o q z), fun b o q n _ _ => ?_, u.free, fun b o q ne => ?_, u.tups, u.frzs, u.tbls⟩
  · obtain ⟨sl, q'⟩ := u.any q n (by simp)
    obtain ⟨sl', q2⟩ := x.slot b _ q' (nz b o q)
    exact ⟨sl', q2⟩
  · obtain ⟨o', q'⟩ := u.there b o q ne
    exact x.there b o' q'
theorem HOk.stp {P : Program} {w : World} {fs : List Addr} {Z : Addr → Prop} {H : Hp} {h h' : Heap} (ok : HOk P w H h) (x : Stp fs Z h h') (hz : ∀ b, Z b → H b = none) (hf : ∀ b ∈ fs, H b = none) : HOk P w H h' := fun a o e => by
  have tr : ∀ b, (b = a ∨ H b = some (.own a)) → ∃ u, H b = some u := by
    rintro b (rfl | q)
    · exact ⟨o, e⟩
    · exact ⟨_, q⟩
  refine (ok a o e).stay (fun b u q r => ?_) (fun _ q => q) fun _ _ q => q
  obtain ⟨u', hu⟩ := tr b q
  exact x.keep b u r (fun z => by rw [hz b z] at hu; cases hu) fun z => by rw [hf b z] at hu; cases hu
section
variable {P : Program} {w : World} {K : PySem.W.Frag} {mg : Str → Option Value} {base : Heap} {N : List Str} {qual : Str} {scope : Scope} {f : Addr} {cd : Value} {A : Around} {outer : List Env} {s : Shared} {H : Hp} {E : XK} {pins : List (Addr × Obj)} {σ : St}
theorem cx_frame {b : Addr} {o : Obj} {H1 : Hp} {s1 : Shared} (I : Inv (cxOf (CX1 P w) P w K mg base N qual scope f cd A outer s H E) pins σ H1 s1) (q : s.heap.get? b = some o) (hb : b ∈ frs (cxOf (CX1 P w) P w K mg base N qual scope f cd A outer s H E).stack) : b ∈ frs outer := by
  rcases List.mem_cons.mp (I.stkSub b hb) with z | z
  · exact absurd (Nat.lt_of_lt_of_le (Heap.lt_size q) I.ok.above) (by rw [z]; exact Nat.lt_irrefl _)
  · exact z
theorem older {H1 : Hp} {s1 : Shared} {T : Addr} (I : Inv (cxOf (CX1 P w) P w K mg base N qual scope f cd A outer s H E) pins σ H1 s1) (l : s1.heap.objs.size ≤ T) : s.heap.get? T = none :=
  Heap.get?_none_of_le (Nat.le_trans I.sz l)
theorem xe_made {H1 : Hp} {s1 : Shared} {ea : Addr} {oe : Obj} {vs : Array Value} (I : Inv (cxOf (CX1 P w) P w K mg base N qual scope f cd A outer s H E) pins σ H1 s1) (he : s1.heap.get? ea = some oe) (hd : oe.data = .fields vs) (h1 : vs[1]? = some .none)
    (hn : s.heap.get? ea = none) (hne : H1 ea = none) (hE : E oe.cls oe.dict H1) : (cxOf (CX1 P w) P w K mg base N qual scope f cd A outer s H E).xe (.ref ea) s1 := by
  show wpAny _ _ (leaving _ _) _ _ _
  unfold leaving
  refine wpAny_bind (note_made (B := base) I.ok.frames I.stack rfl he hd h1 fun h' T st lT fl => ?_)
  refine land fl fun h2 st2 fl2 => ?_
  have z1 : ∀ b, b = ea → s.heap.get? b = none := fun b q => by rw [q]; exact hn
  have z2 : ∀ b, b = T → s.heap.get? b = none := fun b q => by rw [q]; exact older I lT
  refine ⟨ea, T, _, _, H1, rfl, I.os, I.bare, ((show Un (frs outer) [] H H1 s.heap s1.heap from I.base).stp st z1 fun b o q hb => cx_frame I q hb).stp st2 z2 (fun _ _ _ z => nomatch z), ?_, fl2, ⟨hn, z2 T rfl⟩, ⟨hne, I.hok.fresh lT⟩, hE⟩
  exact HOk.stp (HOk.stp (P := P) (w := w) I.hok st (fun b q => by rw [q]; exact hne) fun b hb => I.stkFree b hb) st2 (fun b q => by rw [q]; exact I.hok.fresh lT) fun _ z => nomatch z
theorem gone_back {H1 H2 : Hp} {s1 : Shared} {h2 : Heap} {b : Addr} {fs : List Addr} (u : Un fs [] H1 H2 s1.heap h2) {h0 : Heap} {H0 : Hp} {fs0 : List Addr} (u0 : Un fs0 [] H0 H1 h0 s1.heap) (n : s1.heap.get? b = none) : h0.get? b = none := by
  cases q : h0.get? b with
  | none => rfl
  | some o =>
    obtain ⟨o', q'⟩ := u0.there b o q (by simp)
    rw [n] at q'; cases q'
theorem Fun.ok1 {x qual : Str} {st : Stmt} {f : Addr} {fd : FuncData} {N ps : List Str} {k : Nat} {sp : Sp} (F : Fun K x qual st f fd) (S : FnScope N ps (defScope st)) (len : ∀ vs H Q E, sp vs H Q E → vs.length = ps.length)
    (hb : ∀ (cdv : Value) (A : Around) (outer : List Env) (s : Shared) (H : Hp) (vs : List V) (Q : VK) (E : XK), Room k (A.deeper (envOfC qual (defScope st) s.heap.objs.size f cdv)) → sp vs H Q E →
      ∃ t, PSs (cxOf (CX1 P w) P w K mg base N qual (defScope st) f cdv A outer s H E) (defBody st) t ∧ t { nx := fun _ H' => Q .non H', rt := Q } (start N vs) H) : FnOk P w K mg base (CX1 P w) (k + 1) f fd ps sp := by
  obtain ⟨oc, od, kV, doc, pm, an, cdv, ct, osl, rfl, lk, hcd⟩ := F.ex
  exact fn_of lk hcd S len fun A outer s H vs Q E hr hsp => hb cdv A outer s H vs Q E hr hsp
end
end L2
end
section
set_option maxHeartbeats 4000001
namespace L2
open PySem PySem.Spec PyProof.Rows
section
variable {X : Cx} {pins : List (Addr × Obj)} {σ : St} {H : Hp} {s : Shared}
theorem Inv.relocal {σ' : St} {h' : Heap} {m' : Str → Option Value} {t' : Nat} (I : Inv X pins σ H s) (hs : Heap.SameBut X.env.locals s.heap h') (hn' : h'.Ns X.env.locals m') (hl : σ'.length = σ.length)
    (q : ∀ (j : Nat) (y : Str) (v : V), X.N[j]? = some y → σ'[j]? = some (some v) → Vis X.env.scope y → ∃ u, RelV v u ∧ Look X.env h' m' y u) : Inv X pins σ' H { s with heap := h', toks := t' } := by
  have cne := I.cne
  have old : ∀ b o, X.s₀.heap.get? b = some o → b ≠ X.env.locals := fun b o e => Nat.ne_of_lt (Nat.lt_of_lt_of_le (Heap.lt_size e) I.ok.above)
  refine ⟨I.ok, I.os, I.bare, ⟨fun b o e n hb hx => ?_, fun b o e n hb hx => ?_, I.base.free, fun b o e hx => ?_, I.base.tups, I.base.frzs, I.base.tbls⟩, ⟨_, hn', q⟩, fun y c e => ?_, I.free, I.freeC, fun p hp => ?_, I.hok.sameBut I.free hs, hl.trans I.len⟩
  · exact (hs.2 b (old b o e)).trans (I.base.keep b o e n hb hx)
  · obtain ⟨sl, e1⟩ := I.base.slot b o e n hb hx
    exact ⟨sl, (hs.2 b (old b o e)).trans e1⟩
  · obtain ⟨o', e1⟩ := I.base.there b o e hx
    exact ⟨o', (hs.2 b (old b o e)).trans e1⟩
  · obtain ⟨v, z⟩ := I.cell y c e
    exact ⟨v, z.sameBut hs (cne y c e)⟩
  · obtain ⟨e, n, ne, nf, d⟩ := I.pin p hp
    exact ⟨(hs.2 p.1 ne).trans e, n, ne, nf, d⟩
theorem Look.sameBut {h h' : Heap} {m m' : Str → Option Value} {y : Str} {u : Value} {L : Addr} {env : Env} (l : Look env h m y u) (hs : Heap.SameBut L h h') (hm : m' y = m y) (cne : ∀ c, env.cells.lookup y = some c → c ≠ L) : Look env h' m' y u := by
  rcases l with ⟨k, e⟩ | ⟨k, c, e, z⟩
  · exact .inl ⟨k, hm.trans e⟩
  · exact .inr ⟨k, c, e, z.sameBut hs (cne c e)⟩
theorem name_goes {M : Model} {A : Around} {E : Value → Shared → Prop} {i : Nat} {n : Str} {pos : Pos} {Q : Unit → Shared → Prop} (I : Inv X pins σ H s) (hN : X.N.Nodup) (hi : X.N[i]? = some n) (hl : X.env.scope.names.lookup n = some .local)
    (h : ∀ s', Inv X pins (σ.set i none) H s' → Q () s') : wpAny M A (do bindName X.env n .none; unbindBehindTheSuite X.env n pos) Q E s := by
  have il : i < σ.length := by rw [I.len]; exact (List.getElem?_eq_some_iff.mp hi).1
  refine wpAny_bind (wpAny_bindName (store_ok (v := .non) I hN hi (.inl hl) rfl (fun s1 I1 => ?_) (.inr hl)))
  obtain ⟨m, ns, look⟩ := I1.loc
  have mn : ∃ u, m n = some u := by
    obtain ⟨u, _, l⟩ := look i n .non hi (List.getElem?_set_self il) (.inl hl)
    rcases l with ⟨_, e⟩ | ⟨k, _⟩
    · exact ⟨u, e⟩
    · have k0 : X.env.kindOf n = some .local := hl
      rw [k0] at k
      rcases k with k | k <;> cases k
  obtain ⟨u, hu⟩ := mn
  have kd : (X.env.scope.kind == .class || (X.env.scope.kind == .module && X.env.locals != X.env.globals)) = false := by
    rw [show X.env.scope.kind = .function from I1.ok.kind]; rfl
  unfold unbindBehindTheSuite
  refine wpAny_onRaise (wpAny_unbindName_local (v := u) hl ns hu kd fun h' u' ns' sb => ?_)
  have J := I1.relocal (σ' := (σ.set i (some .non)).set i none) (t' := s1.toks) sb ns' List.length_set fun j y v hj hv vis => ?_
  · rw [List.set_set] at J
    exact h _ J
  · by_cases z : j = i
    · rw [z, List.getElem?_set_self (by rw [List.length_set]; exact il)] at hv; cases hv
    · rw [List.getElem?_set_ne (Ne.symm z)] at hv
      have yn : y ≠ n := fun e => z (nodup_ix hN hj (e ▸ hi))
      obtain ⟨w, r, l⟩ := look j y v hj hv vis
      exact ⟨w, r, l.sameBut sb (if_neg yn) (I1.cne y)⟩
end
theorem exc_match {M : Model} {A : Around} {E : Value → Shared → Prop} {K : PySem.W.Frag} {s : Shared} {ea L : Addr} {oe : Obj} {cls : Value} {b : Bool} {Q : Bool → Shared → Prop} (X : K.In s.heap) (he : s.heap.get? ea = some oe) (hc : oe.cls = cls) (hx : PySem.W.exmOne K cls (.ref L) = some b)
    (q : Q b s) : wpAny M A (excMatches (.ref ea) (.ref L)) Q E s :=
  PySem.W.exm_one X (fun A' Q' E' s' k q' => wpAny_typeOf_ref (k _ _ he) (by rw [hc]; exact q')) hx A Q E s (fun _ _ z => z) q
end L2
end
section
set_option maxHeartbeats 4000001
namespace L2
open PySem PySem.Spec PyProof.Rows
abbrev Cx.held (X : Cx) (e : Addr) : Cx := { X with A := X.A.mark (some (.ref e)), calm := false }
def excO (e C : Addr) (dx : Option Addr) : HO := .ext fun h => ∃ o, h.get? e = some o ∧ o.cls = .ref C ∧ o.dict = dx ∧ ∃ vs, o.data = .fields vs
section
variable {X : Cx} {pins : List (Addr × Obj)} {σ : St} {H : Hp} {s : Shared}
theorem Cx.Ok.held (ok : X.Ok) (e : Addr) : (X.held e).Ok := ⟨ok.mod, ok.kind, ok.glob, ok.blt, ok.above, ok.inj, ok.has, ok.cab, (fun z => nomatch z), ok.frames, ok.stk, ok.exf, ok.bs, ok.bsz, ok.noex, ok.exfs, ok.funs, ok.frf⟩
theorem Inv.held (I : Inv X pins σ H s) (e : Addr) : Inv (X.held e) pins σ H s := ⟨I.ok.held e, I.os, I.bare, I.base, I.loc, I.cell, I.free, I.freeC, I.pin, I.hok, I.len⟩
theorem Inv.unheld {e : Addr} (ok : X.Ok) (I : Inv (X.held e) pins σ H s) : Inv X pins σ H s := ⟨ok, I.os, I.bare, I.base, I.loc, I.cell, I.free, I.freeC, I.pin, I.hok, I.len⟩
theorem Inv.track {e : Addr} {oe : Obj} {vs : Array Value} {o : HO} (I : Inv X pins σ H s) (he : s.heap.get? e = some oe) (hd : oe.data = .fields vs) (hn : H e = none) (h0 : X.s₀.heap.get? e = none) (hp : ∀ p ∈ X.pn ++ pins, p.1 ≠ e)
    (new : ObjOk X.prog X.w (upd H e o) s.heap e o) : Inv X pins σ (upd H e o) s := by
  have ne : ∀ b u, H b = some u → b ≠ e := fun b u q z => by rw [z, hn] at q; cases q
  refine ⟨I.ok, I.os, I.bare, ⟨I.base.keep, I.base.slot, fun b u q n hx => ?_, I.base.there, fun b xs q => ?_, fun b u xs q => ?_, fun b ps q => ?_⟩, I.loc, I.cell, ?_, fun x c q => ?_, fun p q => ?_, fun b u q => ?_, I.len⟩
  · rw [upd_ne (fun z => by rw [z, h0] at q; cases q)]; exact I.base.free b u q n hx
  · have z := I.base.tups b xs q
    rw [upd_ne (ne _ _ z)]; exact z
  · have z := I.base.frzs b u xs q
    rw [upd_ne (ne _ _ z)]; exact z
  · obtain ⟨m, z⟩ := I.base.tbls b ps q
    exact ⟨m, by rw [upd_ne (ne _ _ z)]; exact z⟩
  · obtain ⟨m, ⟨ol, es, ep, hol, hdl, _⟩, _⟩ := I.loc
    rw [upd_ne (fun z => by rw [z, he] at hol; cases hol; rw [hd] at hdl; cases hdl)]; exact I.free
  · obtain ⟨v, oc, hoc, hdc⟩ := I.cell x c q
    rw [upd_ne (fun z => by rw [z, he] at hoc; cases hoc; rw [hd] at hdc; cases hdc)]; exact I.freeC x c q
  · obtain ⟨a1, a2, a3, a4, a5⟩ := I.pin p q
    exact ⟨a1, by rw [upd_ne (hp p q)]; exact a2, a3, a4, a5⟩
  · by_cases z : b = e
    · subst z; rw [upd_same] at q; cases q; exact new
    · rw [upd_ne z] at q
      exact (I.hok b u q).stay (fun _ _ _ r => r) (fun c r => by rw [upd_ne (ne _ _ r)]; exact r) fun c xs r => by rw [upd_ne (ne _ _ r)]; exact r
def behind (i : Nat) (D : Ends) : Ends := { nx := fun σ H => D.nx (σ.set i none) H, rt := D.rt, bk := fun σ H => D.bk (σ.set i none) H, ct := fun σ H => D.ct (σ.set i none) H }
def tCatch (K : PySem.W.Frag) (i : Nat) (L : Addr) (ts : TS) (D : Ends) (σ : St) : XK := fun cls dx H2 => ∃ C, cls = .ref C ∧ PySem.W.exmOne K (.ref C) (.ref L) = some true ∧ ∀ e, H2 e = none → ts (behind i D) (σ.set i (some (.ref e))) (upd H2 e (excO e C dx))
theorem caught {i : Nat} {L : Addr} {n cn : Str} {b0 : Stmt} {suite : List Stmt} {np hpos : Pos} {ts : TS} {D : Ends} {H1 : Hp} {s1 s2 : Shared} {ev : Value} {rest : List ExceptHandler} (I : Inv X pins σ H1 s1) (hx : CX1 X.prog X.w X.stack H1 s1 (tCatch X.K i L ts D σ) ev s2)
    (hst : X.stack = X.env :: X.outer ∧ X.env.frame = some X.env.locals ∧ X.ex = []) (gC : Gl X cn) (mC : X.mg cn = some (.ref L)) (hdb : (cn == ("__debug__" : Str)) = false)
    (hN : X.N.Nodup) (hi : X.N[i]? = some n) (hl : X.env.scope.names.lookup n = some .local) (hs : ∀ e, PSs (X.held e).nox (b0 :: suite) ts) {E : Value → Shared → Prop} :
    wpAny (model X.prog X.w) X.A (noteFrame ev X.env) (fun _ s3 => wpAny (model X.prog X.w) X.A (setFlight ev none) (fun _ s4 => wpAny (model X.prog X.w) X.A (handleBy ev X.env (.ExceptHandler (some (.Name cn np)) (some n) (b0 :: suite) hpos :: rest)) (SP X pins D) E s4) E s3) E s2 := by
  obtain ⟨ea, T, cls, dx, H2, rfl, os, bare, un, hok, fl, ⟨n1, n2⟩, ⟨f1, f2⟩, C, rfl, hcon, k⟩ := hx
  have J : Inv X pins σ H2 s2 := I.call' os un hok bare fun b z => absurd z (by simp)
  have fr : X.A.frames = some (X.env :: X.outer) := by rw [← hst.1]; exact I.ok.frames
  have fu : s2.heap.FunFrames X.base (X.env :: X.outer) := by rw [← hst.1]; exact J.stack
  refine note_fly (B := X.base) fr fu hst.2.1 fl fun h3 T3 st3 l3 fl3 => ?_
  refine land fl3 fun h4 st4 fl4 => ?_
  have nT3 : s1.heap.get? T3 = none := by
    cases q : s1.heap.get? T3 with
    | none => rfl
    | some o =>
      obtain ⟨o', q'⟩ := un.there T3 o q (by simp)
      exact absurd (Heap.lt_size q') (Nat.not_lt.mpr l3)
  have z3 : ∀ b, (b = ea ∨ b = T) → s1.heap.get? b = none := by
    rintro b (q | q)
    · rw [q]; exact n1
    · rw [q]; exact n2
  have z3' : ∀ b, (b = ea ∨ b = T) → H2 b = none := by
    rintro b (q | q)
    · rw [q]; exact f1
    · rw [q]; exact f2
  have fT3 : H2 T3 = none := J.hok.fresh l3
  have un4 : Un (frs X.stack) [] H1 H2 s1.heap h4 := (un.stp st3 z3 fun b o _ hb => by rw [hst.1]; exact hb).stp st4 (fun b q => by rw [q]; exact nT3) (fun _ _ _ z => nomatch z)
  have hok4 : HOk X.prog X.w H2 h4 := HOk.stp (HOk.stp hok st3 z3' fun b hb => J.stkFree b (by rw [hst.1]; exact hb)) st4 (fun b q => by rw [q]; exact fT3) fun _ z => nomatch z
  have J4 : Inv X pins σ H2 { s2 with heap := h4 } := I.call' (s' := { s2 with heap := h4 }) os un4 hok4 bare fun b z => absurd z (by simp)
  obtain ⟨oe, vs, oT, tsv, he, ⟨hc, hdx⟩, hd, h1, ne, hT, hdT, h3'⟩ := id fl4
  refine wpAny_handleBy_cons (codeAny_handlers_test (ld_glob (J4.held ea) gC mC (exc_match (b := true) J4.kIn he hc hcon ?_) hdb)) (by intro q; cases q)
  refine codeAny_handlers_suite_as (land fl4 fun h5 st5 fl5 => ?_)
  have un5 : Un (frs X.stack) [] H1 H2 s1.heap h5 := un4.stp st5 (fun b q => by rw [q]; exact nT3) (fun _ _ _ z => nomatch z)
  have hok5 : HOk X.prog X.w H2 h5 := HOk.stp hok4 st5 (fun b q => by rw [q]; exact fT3) fun _ z => nomatch z
  have J5 : Inv X pins σ H2 { s2 with heap := h5 } := I.call' (s' := { s2 with heap := h5 }) os un5 hok5 bare fun b z => absurd z (by simp)
  obtain ⟨oe5, vs5, _, _, he5, ⟨hc5, hdx5⟩, hd5, _⟩ := id fl5
  have new0 : X.s₀.heap.get? ea = none := by
    cases q : X.s₀.heap.get? ea with
    | none => rfl
    | some o =>
      obtain ⟨o', q'⟩ := I.base.there ea o q (by rw [hst.2.2]; simp)
      rw [n1] at q'; cases q'
  have J6 : Inv X pins σ (upd H2 ea (excO ea C dx)) { s2 with heap := h5 } := by
    refine J5.track he5 hd5 f1 new0 (fun p hp z => ?_) ⟨⟨oe5, he5, hc5, hdx5, _, hd5⟩, ⟨oe5, he5⟩, fun ha hb ⟨o, q, r⟩ m => ⟨o, m o q, r⟩⟩
    have := (I.pin p hp).1
    rw [z, n1] at this; cases this
  refine store_ok (v := .ref ea) J6 hN hi (.inl hl) rfl (fun s7 J7 => ?_) (.inr hl)
  refine wpAny_mono (hs ea pins s7 _ _ (behind i D) ((J7.held ea).wish _) (k ea f1)) (fun f s8 q => ?_) fun _ _ z => z.elim
  have ok := I.ok
  cases f with
  | next => obtain ⟨σ', H', I', q'⟩ := q; exact name_goes (I'.unwish.unheld ok) hN hi hl fun s9 I9 => ⟨_, H', I9, q'⟩
  | brk => obtain ⟨σ', H', I', q'⟩ := q; exact name_goes (I'.unwish.unheld ok) hN hi hl fun s9 I9 => ⟨_, H', I9, q'⟩
  | cont => obtain ⟨σ', H', I', q'⟩ := q; exact name_goes (I'.unwish.unheld ok) hN hi hl fun s9 I9 => ⟨_, H', I9, q'⟩
  | ret u => obtain ⟨v, σ', H', I', r, q'⟩ := q; exact name_goes (I'.unwish.unheld ok) hN hi hl fun s9 I9 => ⟨v, _, H', I9, r, q'⟩
end
end L2
end
section
set_option maxHeartbeats 4000001
namespace L2
open PySem PySem.Spec PyProof.Rows
structure AtTry (X : Cx) : Prop where
  st : X.stack = X.env :: X.outer ∧ X.env.frame = some X.env.locals ∧ X.ex = []
  nox : ∀ e s, X.xe e s → False
structure XAt (X : Cx) (cn : Str) (L : Addr) : Prop where
  gl : Gl X cn
  mg : X.mg cn = some (.ref L)
  db : (cn == ("__debug__" : Str)) = false
section
variable {X : Cx} {k : Nat} {f L : Addr} {fd : FuncData} {ps : List Str} {sp : Sp} {x cn n : Str} {p cpos epos np hpos pos : Pos} {e : Expr} {es : List Expr} {t : TA} {i : Nat} {b0 : Stmt} {suite : List Stmt} {ts : TS} {rest : List ExceptHandler}
end
end L2
end
section
set_option maxHeartbeats 4000001
namespace L2
open PySem PySem.Spec PyProof.Rows
section
variable {h : Heap} {w : World} {prog : Program} {E : Value → Shared → Prop} {A : Around} {g : Array GenState} {os : OsState} {t : Nat} {d : Drawn}
variable {B newId initId : String} {bmB : List Value} {nm q : Str} {C N : Addr} {bs bm : List Value} {hdct : Bool} {sn : List Str} {sub : List Value} {ab : Bool} {col : Option Bool} {dd : Option Addr} {k0 k1 k2 k3 k5 : Option Value}
theorem xm_call (F : ExcBaseFacts B newId initId bmB) (T : OwnTail h bmB bm) {mN : Str → Option Value} {rest : List Value} {fI : Addr} {oI : Obj} {Q : Value → Shared → Prop}
    (hC : h.get? C = some (excClassObj nm q C N bs bm hdct sn sub ab col dd k0 k1 k2 k3 k5 newId)) (hn : h.Ns N mN) (hi : mN "__init__" = some (.ref fI)) (hfI : h.get? fI = some oI) (hfc : oI.cls = .type "function") (hrest : rest.length ≤ sizeLine)
    (hq : ∀ h' e, h.objs.size ≤ e → Heap.MadeExcOf h h' e (.ref C) rest → wpAny (model prog w) (A.under (.builtin "type.__call__" ⟨.ref C :: rest, []⟩)) (call (.ref fI) (.ref e :: rest)) (fun r s' => r = .none ∧ Q (.ref e) s') E ⟨h', g, d, t, os⟩) : wpAny (model prog w) A (call (.ref C) rest) Q E { heap := h, gens := g, drawn := d, toks := t, os := os } := by
  apply wpAny_call; apply codeAny_of_tree
  show wpAny _ _ (callAny (.ref C) ⟨rest, []⟩) _ _ _
  refine wpAny_bind (wpAny_load hC ?_)
  show wpAny _ _ (callAny.viaDunder (.ref C) ⟨rest, []⟩) _ _ _
  unfold callAny.viaDunder specialOf
  refine wpAny_bind (wpAny_bind (wpAny_typeOf_ref hC ?_))
  show wpAny _ _ (typeLookup (.type "type") "__call__") _ _ _
  rw [tc_lookup]
  refine wpAny_pure ?_
  show wpAny _ _ (bindSpecial (.builtin "type.__call__") (.ref C) >>= _) _ _ _
  rw [tc_bind]
  refine wpAny_bind (wpAny_pure (wpAny_bind (wpAny_pure (wpAny_pure ⟨rfl, ?_⟩))))
  have isT : PySem.W.Looks (model prog w) h (isInstance (.ref C) (.type "type")) true := fun A' Q' E' s' k q' => by
    unfold isInstance
    refine wpAny_bind (wpAny_typeOf_ref (k _ _ hC) ?_)
    show wpAny _ _ (isSubtype (.type "type") (.type "type")) _ _ _
    rw [tc_sub]
    exact wpAny_pure q'
  refine codeAny_call_builtin_at (Code.quiet_builtin _ (by decide +kernel)) entry_typeCall (PySem.W.check_slot tc_kind tc_split isT (PySem.W.tc_args _ _ _) ?_)
  delta Builtin.«type.__call__»; show wpAny _ _ (if (Value.ref C == Value.type "type") = true then _ else _) _ _ _
  rw [if_neg (by intro z; cases z)]
  show wpAny _ _ (mroOf (.ref C) >>= _) _ _ _
  refine wpAny_bind (wpAny_mroOf_exc hC ?_); show wpAny _ _ (if (Value.ref C :: bm).isEmpty = true then _ else _) _ _ _
  rw [if_neg (by intro z; cases z)]
  show wpAny _ _ (Bind.madeBy (.ref C) >>= _) _ _ _
  refine wpAny_bind (wpAny_madeBy_exc hC (wpAny_bind (wpAny_pure ?_)))
  show wpAny _ _ (holding [.builtin newId] (call (.builtin newId) (.ref C :: rest) []) >>= _) _ _ _
  refine wpAny_bind (wpAny_holding (wpAny_call (codeAny_call_builtin_code (Code.quiet_builtin _ F.quiet) (wpAny_check_new_subT F T hC (codeAny_exc_new_subT F T hC ?_ hrest)))))
  show wpAny _ _ _ _ _ ⟨(h.push { cls := .type "tuple", data := .seq rest.toArray }).push { cls := .ref C, data := .fields #[.ref h.objs.size, .none, .none, .none, .bool false, .none] }, g, d, t, os⟩
  generalize hE : h.objs.size + 1 = e
  generalize hH : (h.push { cls := .type "tuple", data := .seq rest.toArray }).push { cls := .ref C, data := .fields #[.ref h.objs.size, .none, .none, .none, .bool false, .none] } = h'
  have keep : ∀ b o, h.get? b = some o → h'.get? b = some o := fun b o z => by rw [← hH]; exact Heap.get?_push_of_some _ (Heap.get?_push_of_some _ z)
  have at_e : h'.get? e = some { cls := .ref C, data := .fields #[.ref h.objs.size, .none, .none, .none, .bool false, .none] } := by
    rw [← hH, ← hE, ← Heap.size_push h { cls := .type "tuple", data := .seq rest.toArray }]; exact Heap.get?_push_size _ rfl
  have made : Heap.MadeExcOf h h' e (.ref C) rest := ⟨keep, Heap.get?_none_of_le (by lia), h.objs.size, at_e, Heap.get?_none_of_le (Nat.le_refl _), by rw [← hH]; exact Heap.get?_push_of_some _ (Heap.get?_push_size _ rfl)⟩
  have hC' := keep _ _ hC
  show wpAny _ _ (isInstance (.ref e) (.ref C) >>= _) _ _ _
  unfold isInstance
  refine wpAny_bind (wpAny_bind (wpAny_typeOf_ref at_e ?_))
  show wpAny _ _ (isSubtype (.ref C) (.ref C)) _ _ _
  refine wpAny_isSubtype_exc hC' ?_
  rw [show (Value.ref C :: bm).contains (.ref C) = true by simp]
  show wpAny _ _ (holding [.ref e] (callSpecial? (.ref e) "__init__" rest []) >>= _) _ _ _
  unfold callSpecial? specialOf
  refine wpAny_bind (wpAny_holding (wpAny_bind (wpAny_bind (wpAny_typeOf_ref at_e ?_))))
  show wpAny _ _ (typeLookup (.ref C) "__init__") _ _ _
  refine wpAny_typeLookup_tail hC' (hn.keeps keep) (T.keeps keep) F.mroIs F.init.lookup ?_
  rw [hi]
  refine wpAny_holding (wpAny_bind (wpAny_bindSpecial_def (keep _ _ hfI) hfc (wpAny_bind (wpAny_mono (hq h' e (by lia) made) (fun r s' z => ?_) fun _ _ z => z))))
  obtain ⟨rfl, z⟩ := z
  refine wpAny_pure ?_
  show wpAny _ _ (if (Value.none != Value.none) = true then _ else _) _ _ _
  rw [if_neg (by decide)]
  exact wpAny_pure z
end
end L2
end
section
set_option maxHeartbeats 4000001
namespace L2
open PySem PySem.Spec PyProof.Rows
abbrev bmV : List Value := [.type "ValueError", .type "Exception", .type "BaseException", .type "object"]
section
variable {prog : Program} {w : World} {A : Around} {E : Value → Shared → Prop} {K : PySem.W.Frag} {hp : Heap} {gs : Array GenState} {dr : Drawn} {tk : Nat} {os : OsState} {nm q f : Str} {C N L e : Addr} {bs sub : List Value} {sn : List Str} {ab : Bool} {col : Option Bool} {dd : Option Addr} {k0 k1 k2 k3 k5 : Option Value} {nid : String} {oe : Obj} {u : Value} {Q : Unit → Shared → Prop}
theorem xs_attr (X : K.In hp) (hC : hp.get? C = some (excClassObj nm q C N bs (.ref L :: bmV) true sn sub ab col dd k0 k1 k2 k3 k5 nid)) (hs : PySem.W.findIn K (.ref C) "__setattr__" = some (some (.builtin "object.__setattr__"))) (hna : PySem.W.findIn K (.ref C) f = some none)
    (he : hp.get? e = some oe) (hc : oe.cls = .ref C) (hd : oe.dict = none) {vs : Array Value} (hn : oe.data = .fields vs)
    (h : ∀ h' tk', h'.get? e = some { oe with dict := some hp.objs.size } → h'.Ns1 hp.objs.size (fun y => if y = f then some u else none) → (∀ c o, c ≠ e → hp.get? c = some o → h'.get? c = some o) → Q () ⟨h', gs, dr, tk', os⟩) :
    wpAny (model prog w) A (setAttr (.ref e) f u) Q E ⟨hp, gs, dr, tk, os⟩ := by
  have I : PySem.W.InstAt hp e oe C none := ⟨he, hc, by unfold PySem.W.notCls; rw [hn], by rw [hd]; trivial⟩
  refine PySem.W.set_plain X I hs ?_
  have isO : PySem.W.Looks (model prog w) hp (isInstance (.ref e) (.type "object")) true := fun A' Q' E' s' k q' => by
    unfold isInstance
    refine wpAny_bind (wpAny_typeOf_ref (k _ _ he) ?_)
    rw [hc]
    obtain ⟨h', g', d', t', os'⟩ := s'
    exact wpAny_isSubtype_exc (k _ _ hC) q'
  refine codeAny_call_builtin PySem.F.slot_object_setattr.plain PySem.F.entry_object_sa ?_
  have ck := @PySem.W.check_slot (model prog w) A.in1 E ⟨hp, gs, dr, tk + 1, os⟩ "object.__setattr__" "object" "__setattr__" (.ref e) [.str f tk, u] []
  refine ck PySem.F.store_ValueError.kind PySem.F.store_ValueError.split isO (PySem.F.store_ValueError.args _ _ _) ?_
  rw [PySem.W.osa_eq, refuse_eq]
  refine wpAny_bind (wpAny_bind (wpAny_typeOf_ref he ?_))
  rw [hc]
  refine wpAny_bind (wpAny_mroOf_exc hC ?_); rw [refuseLoop_ref, refuseLoop_ref, PySem.F.store_ValueError.passes]
  refine wpAny_pure (wpAny_bind (wpAny_typeOf_ref he ?_))
  rw [hc]
  refine wpAny_bind (PySem.W.looks_findIn X hna _ _ _ _ (fun _ _ z => z) ?_)
  refine wpAny_bind (wpAny_pure ?_)
  show wpAny _ _ (Builtin.ObjectAttr.storeInOwnDict (.ref e) (.ref C) (.str f tk) f u false) _ _ _
  unfold Builtin.ObjectAttr.storeInOwnDict
  refine wpAny_bind (wpAny_pure ?_)
  show wpAny _ _ (if (Value.ref C == Value.type "module") = true then _ else _) _ _ _
  rw [if_neg (by intro z; cases z)]
  show wpAny _ _ (instanceDict e true >>= _) _ _ _
  unfold instanceDict
  refine wpAny_bind (wpAny_bind (wpAny_loadPart he ?_))
  obtain ⟨ce, de, dt, sl⟩ := oe
  obtain rfl : ce = .ref C := hc
  obtain rfl : de = none := hd
  obtain rfl : dt = .fields vs := hn
  show wpAny _ _ (classData C >>= _) _ _ _
  unfold classData
  refine wpAny_bind (wpAny_bind (wpAny_load hC (wpAny_pure ?_)))
  show wpAny _ _ (if (!true) = true then _ else _) _ _ _; rw [if_neg (by decide)]
  show wpAny _ _ (if (!true || !true) = true then _ else _) _ _ _
  rw [if_neg (by decide)]
  show wpAny _ _ (alloc { cls := .type "dict", data := .dict #[] } >>= _) _ _ _
  refine wpAny_bind (wpAny_alloc (wpAny_bind (wpAny_update (Heap.get?_push_of_some _ he) (wpAny_pure ?_))))
  have lt : e < hp.objs.size := Heap.lt_size he
  have ne : e ≠ hp.objs.size := Nat.ne_of_lt lt
  generalize hG : (hp.push { cls := .type "dict", data := .dict #[] }).update e (fun o => { o with dict := some hp.objs.size }) = h2
  have at2 : h2.get? e = some ⟨.ref C, some hp.objs.size, .fields vs, sl⟩ := by
    rw [← hG]
    exact Heap.get?_update_self _ (Heap.get?_push_of_some _ he) rfl
  have other : ∀ c o, c ≠ e → (hp.push { cls := .type "dict", data := .dict #[] }).get? c = some o → h2.get? c = some o := fun c o z r => by rw [← hG, Heap.get?_update_other _ _ (Ne.symm z)]; exact r
  have ns2 : h2.Ns1 hp.objs.size fun _ => none := ⟨{ cls := .type "dict", data := .dict #[] }, #[], 0, other _ _ (Ne.symm ne) (Heap.get?_push_size _ rfl), rfl, by simp [StrKeys], by simp [UniqKeys], fun _ => rfl⟩
  show wpAny _ _ (Builtin.ObjectAttr.storeInDict hp.objs.size (.str f tk) f u) _ _ _
  unfold Builtin.ObjectAttr.storeInDict
  refine wpAny_bind (wpAny_pure (wpAny_bind (wpAny_nsSet1 ns2 fun h3 ns3 sb3 => ?_)))
  obtain ⟨o3, es3, ep3, g3, d3, z3⟩ := ns3.count (ns := [f]) (Within.cons f u Within.nil)
  refine wpAny_bind (wpAny_lookBehind g3 ?_ (wpAny_pure (h h3 _ ((sb3.2 e ne).trans at2) ns3 fun c o z r => ?_)))
  · rw [d3]
    show (if es3.size > sizeLine + 1 then some "dict:memory" else none) = none
    rw [if_neg]
    rw [sizeLine_eq]
    have : es3.size ≤ 1 := z3
    lia
  · have cn : c ≠ hp.objs.size := Nat.ne_of_lt (Heap.lt_size r)
    exact (sb3.2 c cn).trans (other c o z (Heap.get?_push_of_some _ r))
end
end L2
end
section
set_option maxHeartbeats 4000001
namespace L2
open PySem PySem.Spec PyProof.Rows
theorem xi_call {prog : Program} {w : World} {A : Around} {E : Value → Shared → Prop} {hp : Heap} {gs : Array GenState} {dr : Drawn} {tk : Nat} {os : OsState} {B nid initId newId : String} {bmB bm bs sub : List Value} {nm q : Str} {C N e t0 : Addr} {hdct ab : Bool} {sn : List Str} {col : Option Bool} {dd dx : Option Addr} {k0 k1 k2 k3 k5 : Option Value} {rest : List Value} {Q : Value → Shared → Prop}
    (F : ExcBaseFacts B nid initId bmB) (T : OwnTail hp bmB bm) (hC : hp.get? C = some (excClassObj nm q C N bs bm hdct sn sub ab col dd k0 k1 k2 k3 k5 newId))
    (he : hp.get? e = some { cls := .ref C, dict := dx, data := .fields #[.ref t0, .none, .none, .none, .bool false, .none] }) (hr : rest.length ≤ sizeLine)
    (hq : ∀ h', (∀ b o, b ≠ e → hp.get? b = some o → h'.get? b = some o) → (∃ t1, h'.get? e = some { cls := .ref C, dict := dx, data := .fields #[.ref t1, .none, .none, .none, .bool false, .none] }) → Q .none ⟨h', gs, dr, tk, os⟩) :
    wpAny (model prog w) A (call (.builtin initId) (.ref e :: rest)) Q E ⟨hp, gs, dr, tk, os⟩ := by
  refine wpAny_call (codeAny_call_builtin F.init.plain F.initEntry (wpAny_check_init_subU F T hC he rfl ?_))
  delta Builtin.«BaseException.__init__»; skip
  show wpAny _ _ (newTuple rest >>= _) _ _ _
  have he2 := Heap.get?_push_of_some { cls := .type "tuple", data := .seq rest.toArray } he
  refine wpAny_bind (wpAny_newTuple ?_ hr)
  unfold Builtin.BaseException.bexcPut
  refine wpAny_bind (wpAny_bind (wpAny_field he2 rfl rfl (wpAny_bind (wpAny_setField he2 rfl (show 0 < 6 by decide) (wpAny_letGo ?_)))))
  refine wpAny_pure (hq _ (fun b o z r => (put_ne z).trans (Heap.get?_push_of_some _ r)) ⟨hp.objs.size, put_at 0 _ he2⟩)
end L2
end
section
set_option maxHeartbeats 4000001
namespace L2
open PySem PySem.Spec PyProof.Rows
def newX (e C : Addr) (dx : Option Addr) : HO := .ext fun h => ∃ t, h.get? e = some { cls := .ref C, dict := dx, data := .fields #[.ref t, .none, .none, .none, .bool false, .none] }
theorem newX_ok {P : Program} {w : World} {H : Hp} {h : Heap} {e C t : Addr} {dx : Option Addr} (q : h.get? e = some { cls := .ref C, dict := dx, data := .fields #[.ref t, .none, .none, .none, .bool false, .none] }) : ObjOk P w H h e (newX e C dx) :=
  ⟨⟨t, q⟩, ⟨_, q⟩, fun _ _ ⟨t', q'⟩ m => ⟨t', m _ q'⟩⟩
structure XOwn (K : PySem.W.Frag) (C L fI : Addr) : Prop where
  cl : ∃ nm q N bs sn sub ab col dd k0 k1 k2 k3 k5, K.lookup C = some (excClassObj nm q C N bs (.ref L :: bmV) true sn sub ab col dd k0 k1 k2 k3 k5 "ValueError.__new__") ∧ PySem.W.nsOkIn K N = true ∧ PySem.W.nsIn K N "__init__" = some (some (.ref fI))
  tl : PySem.W.tailIn K bmV (.ref L :: bmV) = true
  fl : ∃ oI, K.lookup fI = some oI ∧ oI.cls = .type "function"
  set : PySem.W.findIn K (.ref C) "__setattr__" = some (some (.builtin "object.__setattr__"))
  kp : PySem.W.keepIn K (.ref C) = true
structure XBase (K : PySem.W.Frag) (L : Addr) : Prop where
  sp : PySem.W.specialIn K (.ref L) "__getattribute__" = some (some (.builtin "type.__getattribute__"))
  rd : PySem.W.readsIn K L (.type "type") = true
  fd : PySem.W.findCls K (.ref L) (.type "type") "__init__" = some (.val (.builtin "ValueError.__init__"))
theorem upd_id {H : Hp} {a : Addr} {o : HO} (h : H a = some o) : upd H a o = H := by
  funext b
  by_cases z : b = a
  · rw [z, upd_same, h]
  · rw [upd_ne z]
section
variable {X : Cx} {C L fI : Addr} {cn f : Str} {np apos pos pos' : Pos} {a b o value : Expr} {t : TA} {ta tv : TE}
def tXInit (C : Addr) (t : TA) : TE := fun σ H Q => t σ H fun vs H1 => ∃ e v dx, vs = [.ref e, v] ∧ H1 e = some (newX e C dx) ∧ Q .non H1
theorem pe_xinit {pl : Sem Bool} (B : XBase X.K L) (O : XOwn X.K C L fI) (gl : Gl X cn) (mg : X.mg cn = some (.ref L)) (ha : PA X [a, b] t) (hdb : (cn == ("__debug__" : Str)) = false := by decide)
    (hst : starEach [a, b] X.env = (false, eval a X.env) :: starEach [b] X.env := by rfl) (hpl : (backTo pos (starEach [b] X.env)).any (·.1) = false := by rfl)
    (ht : eval (.Call (.Attribute (.Name cn np) "__init__" apos) [a, b] [] pos) X.env = (do
      let ov ← eval (.Name cn np) X.env
      standAt apos.atName
      let (f, first) ← holding [ov] (getMethod ov "__init__" pl)
      callWith pos f first (backTo pos (starEach [a, b] X.env)) (backToKw pos (keywordEach [] X.env))) := by rfl) :
    PE X (.Call (.Attribute (.Name cn np) "__init__" apos) [a, b] [] pos) (tXInit C t) := by
  intro pins s σ H Q I h
  refine PySem.W.methodCall_KW (pl := pl) (ld_glob I gl mg (PySem.W.method_cls I.kIn B.sp (PySem.W.cls_value I.kIn B.rd B.fd rfl ?_)) hdb) ht
  refine PyProof.Rows.callWith_builtin1 (thn (ha pos pins _ σ H _ (I.tok _) h) fun us s1 ⟨vs, H1, I1, r, e, v, dx, ev, he, qq⟩ => ?_) hst hpl
  subst ev
  obtain ⟨u1, u2, rfl, r1, r2⟩ := Vals.two r
  obtain rfl : u1 = Value.ref e := r1
  obtain ⟨⟨t0, g0⟩, _, _⟩ := I1.hok e _ he
  obtain ⟨nm, q, N, bs, sn, sub, ab, col, dd, k0, k1, k2, k3, k5, lC, _⟩ := O.cl
  have kin := I1.kIn
  obtain ⟨hp, g, d, tk, os⟩ := s1
  refine xi_call PySem.F.excBase_ValueError (PySem.W.tail_of_in kin O.tl) (kin _ _ lC) g0 (by show 1 ≤ sizeLine; decide) fun h' keep new => ?_
  obtain ⟨t1, new⟩ := new
  have W := I1.write (h' := h') (t' := tk) (o := newX e C dx) (by rw [he]; exact trivial) (.inl rfl) keep ⟨_, new⟩ (newX_ok new)
  rw [upd_id he] at W
  exact ⟨.non, H1, W, rfl, qq⟩
end
end L2
end
section
set_option maxHeartbeats 4000001
namespace L2
open PySem PySem.Spec PyProof.Rows
section
variable {X : Cx} {C L fI : Addr} {cn f : Str} {np apos pos pos' : Pos} {a b o value : Expr} {t : TA} {ta tv : TE}
def tXSet (C : Addr) (ta tv : TE) (f : Str) : TS := fun D σ H => tv σ H fun y H1 => ta σ H1 fun x H2 => ∃ e, x = .ref e ∧ H2 e = some (newX e C none) ∧ ∀ dx, H2 dx = none → dx ≠ e → D.nx σ (upd (upd H2 dx (.xd [(f, y)])) e (newX e C (some dx)))
theorem ps_xset (O : XOwn X.K C L fI) (hna : PySem.W.findIn X.K (.ref C) f = some none) (ha : PE X o ta) (hv : PE X value tv) (hs : swapsWith value (some (.Attribute o f pos')) pos.line X.env = pure false := by rfl) : PS X (.Assign [.Attribute o f pos'] value pos) (tXSet C ta tv f) := by
  intro pins s σ H D I h
  refine plainObj_wpAny_Assign_Attribute (thn (hv pins s σ H _ I h) fun u s1 ⟨y, H1, I1, ry, q⟩ => thn (ha pins s1 σ H1 _ I1 q) fun ov s2 ⟨x, H2, I2, rx, e, ex, ee, qq⟩ => ?_) hs
  subst ex
  obtain rfl : ov = Value.ref e := rx
  obtain ⟨⟨t0, g0⟩, _, _⟩ := I2.hok e _ ee
  obtain ⟨nm, q, N, bs, sn, sub, ab, col, dd, k0, k1, k2, k3, k5, lC, _⟩ := O.cl
  have kin := I2.kIn
  obtain ⟨hp, g, d, tk, os⟩ := s2
  have le : e < hp.objs.size := Heap.lt_size g0
  have nd : H2 hp.objs.size = none := I2.hok.fresh (Nat.le_refl _)
  have ned : hp.objs.size ≠ e := Nat.ne_of_gt le
  have mu : ∀ c u, H2 c = some u → (∀ φ, u ≠ .ext φ) → c ≠ e := fun c u z nz zz => by rw [zz, ee] at z; exact nz _ (Option.some.inj z).symm
  have nn : ∀ c u, H2 c = some u → c ≠ hp.objs.size := fun c u z zz => by rw [zz, nd] at z; cases z
  refine xs_attr kin (kin _ _ lC) O.set hna g0 rfl rfl rfl fun h' tk' a1 a2 a3 => ?_
  refine ⟨σ, _, I2.un (h' := h') (t' := tk') ⟨fun c ob z n _ _ => ?_, fun c ob z n _ _ => ?_, fun c ob z n _ => ?_, fun c ob z _ => ?_, fun c xs z => ?_, fun c ob u z => ?_, fun c ps z => ?_⟩ (fun c u z => ?_), qq hp.objs.size nd ned⟩
  · exact a3 c ob (fun zz => by rw [zz, ee] at n; cases n) z
  · exact ⟨ob.slots, a3 c ob (fun zz => by rw [zz, ee] at n; cases n) z⟩
  · rw [upd_ne (fun zz => by rw [zz, ee] at n; cases n), upd_ne (Nat.ne_of_lt (Heap.lt_size z))]; exact n
  · by_cases zz : c = e
    · rw [zz]; exact ⟨_, a1⟩
    · exact ⟨ob, a3 c ob zz z⟩
  · rw [upd_ne (mu _ _ z fun φ w => nomatch w), upd_ne (nn _ _ z)]; exact z
  · rw [upd_ne (mu _ _ z fun φ w => nomatch w), upd_ne (nn _ _ z)]; exact z
  · exact ⟨#[], by rw [upd_ne (mu _ _ z fun φ w => nomatch w), upd_ne (nn _ _ z), z]; simp⟩
  · by_cases ce : c = e
    · subst ce
      rw [upd_same] at z; cases z
      exact newX_ok a1
    · rw [upd_ne ce] at z
      by_cases cd : c = hp.objs.size
      · subst cd
        rw [upd_same] at z; cases z
        refine ⟨_, a2, fun n => ?_⟩
        by_cases w : n = f
        · subst w
          have e1 : List.lookup n [(n, y)] = some y := by simp [List.lookup]
          rw [e1, if_pos rfl]; exact ry
        · have e1 : List.lookup n [(f, y)] = none := by simp [List.lookup, beq_eq_false_iff_ne.mpr w]
          rw [e1, if_neg w]; trivial
      · rw [upd_ne cd] at z
        refine (I2.hok c u z).stay (fun c' ob w r => a3 c' ob ?_ r) (fun c' w => ?_) fun c' xs w => ?_
        · rcases w with w | w
          · rw [w]; exact ce
          · exact mu _ _ w fun φ w => nomatch w
        · rw [upd_ne (mu _ _ w fun φ w => nomatch w), upd_ne (nn _ _ w)]; exact w
        · rw [upd_ne (mu _ _ w fun φ w => nomatch w), upd_ne (nn _ _ w)]; exact w
end
def cut (H : Hp) (e : Addr) : Hp := fun b => if b = e then none else H b
theorem cut_ne {H : Hp} {e b : Addr} (h : b ≠ e) : cut H e b = H b := by unfold cut; rw [if_neg h]
theorem cut_at {H : Hp} {e : Addr} : cut H e e = none := by unfold cut; rw [if_pos rfl]
theorem Inv.untrack {X : Cx} {pins : List (Addr × Obj)} {σ : St} {H : Hp} {s : Shared} {e : Addr} {φ : Heap → Prop} (I : Inv X pins σ H s) (he : H e = some (.ext φ)) : Inv X pins σ (cut H e) s := by
  have ne : ∀ c u, H c = some u → (∀ φ, u ≠ .ext φ) → c ≠ e := fun c u z nz zz => by rw [zz, he] at z; exact nz _ (Option.some.inj z).symm
  have no : ∀ c, H c = none → cut H e c = none := fun c z => by unfold cut; split <;> first | rfl | exact z
  refine ⟨I.ok, I.os, I.bare, ⟨I.base.keep, I.base.slot, fun b u q n hx => no b (I.base.free b u q n hx), I.base.there, fun b xs q => ?_, fun b u xs q => ?_, fun b ps q => ?_⟩, I.loc, I.cell, no _ I.free, fun x c q => no _ (I.freeC x c q), fun p q => ?_, fun b u q => ?_, I.len⟩
  · have z := I.base.tups b xs q
    rw [cut_ne (ne _ _ z fun φ w => nomatch w)]; exact z
  · have z := I.base.frzs b u xs q
    rw [cut_ne (ne _ _ z fun φ w => nomatch w)]; exact z
  · obtain ⟨m, z⟩ := I.base.tbls b ps q
    exact ⟨m, by rw [cut_ne (ne _ _ z fun φ w => nomatch w)]; exact z⟩
  · obtain ⟨a1, a2, a3, a4, a5⟩ := I.pin p q
    exact ⟨a1, no _ a2, a3, a4, a5⟩
  · have nb : b ≠ e := fun z => by rw [z, cut_at] at q; cases q
    rw [cut_ne nb] at q
    exact (I.hok b u q).stay (fun _ _ _ r => r) (fun c r => by rw [cut_ne (ne _ _ r fun φ w => nomatch w)]; exact r) fun c xs r => by rw [cut_ne (ne _ _ r fun φ w => nomatch w)]; exact r
end L2
end
section
set_option maxHeartbeats 4000001
namespace L2
open PySem PySem.Spec PyProof.Rows
theorem ns_some {K : PySem.W.Frag} {h : Heap} {N : Addr} {m : Str → Option Value} {n : Str} {v : Value} (X : K.In h) (G : h.Ns N m) (e : PySem.W.nsIn K N n = some (some v)) : m n = some v := by
  obtain ⟨o, es, ep, go, dt, _, ff⟩ := G
  unfold PySem.W.nsIn at e
  cases hl : K.lookup N with
  | none => rw [hl] at e; cases e
  | some ob =>
    obtain rfl := Option.some.inj ((X _ _ hl).symm.trans go)
    obtain ⟨c, d, dt', sl⟩ := ob
    obtain rfl : dt' = .dict es ep := dt
    rw [hl] at e
    have e' : (match es.toList.find? (·.key.isStr n) with | some en => some (some en.val) | none => if es.toList.any (·.refKey) then none else some none) = some (some v) := e
    rw [← ff n]
    unfold nsFind findBy
    cases hf : es.toList.find? (·.key.isStr n) with
    | none =>
      rw [hf] at e'
      exfalso
      revert e'
      show (if (es.toList.any fun x => x.refKey) = true then none else some none) = some (some v) → False
      split <;> intro z <;> cases z
    | some en =>
      rw [hf] at e'
      have e2 : some (some en.val) = some (some v) := e'
      rw [← Array.find?_toList, hf]
      exact Option.some.inj e2
theorem raise_of {M : Model} {A : Around} {E : Value → Shared → Prop} {s : Shared} {env : Env} {x : Sem Value} {Q : Flow → Shared → Prop} {nm q : Str} {C N : Addr} {bs bm sub : List Value} {hdct ab : Bool} {sn : List Str} {col : Option Bool} {dd : Option Addr} {k0 k1 k2 k3 k5 : Option Value} {newId : String}
    (hb : (Value.ref C :: bm).contains (.type "BaseException") = true) (hh : A.handled = none)
    (h : wpAny M A x (fun v s1 => ∃ e t dx, v = .ref e ∧ s1.heap.get? C = some (excClassObj nm q C N bs bm hdct sn sub ab col dd k0 k1 k2 k3 k5 newId) ∧ s1.heap.get? e = some { cls := .ref C, dict := dx, data := .fields #[.ref t, .none, .none, .none, .bool false, .none] } ∧ E (.ref e) s1) E s) : wpAny M A (raiseStmt env (some x) none) Q E s := by
  unfold raiseStmt
  refine wpAny_bind (wpAny_mono h (fun v s1 z => ?_) fun _ _ z => z)
  obtain ⟨e, t, dx, rfl, hC, he, hE⟩ := z
  obtain ⟨hp, gs, dr, tk, os⟩ := s1
  have noType : ∀ {α : Type} {k : Bool → Sem α} {Q' : α → Shared → Prop}, wpAny M A (k false) Q' E ⟨hp, gs, dr, tk, os⟩ → wpAny M A (isType (.ref e) >>= k) Q' E ⟨hp, gs, dr, tk, os⟩ := fun z => by
    unfold isType loadHead
    exact wpAny_bind (wpAny_bind (wpAny_loadPart he (wpAny_pure z)))
  have isB : ∀ {α : Type} {k : Bool → Sem α} {Q' : α → Shared → Prop}, wpAny M A (k true) Q' E ⟨hp, gs, dr, tk, os⟩ → wpAny M A (isInstance (.ref e) (.type "BaseException") >>= k) Q' E ⟨hp, gs, dr, tk, os⟩ := fun z => by
    unfold isInstance
    refine wpAny_bind (wpAny_bind (wpAny_typeOf_ref he ?_))
    show wpAny _ _ (isSubtype (.ref C) (.type "BaseException")) _ _ _
    refine wpAny_isSubtype_exc hC ?_
    rw [hb]; exact z
  refine wpAny_bind (wpAny_pure ?_)
  refine wpAny_bind (wpAny_holding ?_); unfold excFromValue isExcClass
  refine wpAny_bind (noType (wpAny_pure ?_))
  show wpAny _ _ (isInstance (.ref e) (.type "BaseException") >>= _) _ _ _
  refine isB (wpAny_pure ?_)
  show wpAny _ _ (isType (.ref e) >>= _) _ _ _
  refine noType ?_
  show wpAny _ _ (raisedInstance (.ref e) >>= _) _ _ _
  unfold raisedInstance
  refine wpAny_bind (wpAny_bind (wpAny_typeOf_ref he ?_))
  show wpAny _ _ (typeOf (.ref C) >>= _) _ _ _
  refine wpAny_bind (wpAny_typeOf_ref hC ?_)
  show wpAny _ _ (if (Value.type "type" == Value.type "type") = true then _ else _) _ _ _
  rw [if_pos (by decide)]
  refine wpAny_pure ?_
  unfold setFlight
  refine wpAny_bind (wpAny_bind (wpAny_field he rfl rfl ?_))
  show wpAny _ _ (if (Value.none != Value.none) = true then _ else _) _ _ _
  rw [if_neg (by decide)]
  exact wpAny_pure (wpAny_raiseNew_none hh hE)
def spXI (C : Addr) (f : Str) (good : V → Prop) : Sp := fun vs H Q _ => ∃ e v, vs = [.ref e, v] ∧ good v ∧ H e = some (newX e C none) ∧ ∀ dx, H dx = none → dx ≠ e → Q .non (upd (upd H dx (.xd [(f, v)])) e (newX e C (some dx)))
def tRaiseX (C : Addr) (f : Str) (good : V → Prop) (E : XK) (t : TA) : TS := fun _ σ H => t σ H fun vs H1 => ∃ v, vs = [v] ∧ good v ∧ ∀ dx, H1 dx = none → E (.ref C) (some dx) (upd H1 dx (.xd [(f, v)]))
section
variable {P : Program} {w : World} {K : PySem.W.Frag} {mg : Str → Option Value} {base : Heap} {N : List Str} {qual : Str} {scope : Scope} {fn : Addr} {cd : Value} {A : Around} {outer : List Env} {s : Shared} {H : Hp} {E : XK}
theorem ps_raiseX {C L fI : Addr} {fd : FuncData} {k : Nat} {par f cn : Str} {good : V → Prop} {np cpos pos : Pos} {a : Expr} {t : TA} (O : XOwn K C L fI) (F : FnOk P w K mg base CX0 k fI fd ["self", par] (spXI C f good)) (hb : Binds K fd ["self", par] [])
    (hr : Room (k + 1) (cxOf (CX1 P w) P w K mg base N qual scope fn cd A outer s H E).A) (gl : Gl (cxOf (CX1 P w) P w K mg base N qual scope fn cd A outer s H E) cn) (hm : mg cn = some (.ref C)) (ha : PA (cxOf (CX1 P w) P w K mg base N qual scope fn cd A outer s H E).nox [a] t)
    (hdb : (cn == ("__debug__" : Str)) = false := by decide) (he : starEach [a] (cxOf (CX1 P w) P w K mg base N qual scope fn cd A outer s H E).env = [(false, eval a (cxOf (CX1 P w) P w K mg base N qual scope fn cd A outer s H E).env)] := by rfl) :
    PS (cxOf (CX1 P w) P w K mg base N qual scope fn cd A outer s H E) (.Raise (some (.Call (.Name cn np) [a] [] cpos)) none pos) (tRaiseX C f good E t) := by
  intro pins s1 σ H1 D I h
  rw [arm_exec_Raise]
  obtain ⟨nm, q, Nn, bs, sn, sub, ab, col, dd, k0, k1, k2, k3, k5, lC, nsok, nsi⟩ := O.cl
  refine wpAny_bind (wpAny_standAt (raise_of (C := C) (nm := nm) (q := q) (N := Nn) (bs := bs) (bm := .ref L :: bmV) (sub := sub) (hdct := true) (ab := ab) (sn := sn) (col := col) (dd := dd) (k0 := k0) (k1 := k1) (k2 := k2) (k3 := k3) (k5 := k5) (newId := "ValueError.__new__") (by rw [List.contains_cons, List.contains_cons]; simp [bmV]) (I.ok.hd rfl) (wpAny_bind (wpAny_mono (?_ : wpAny _ _ (eval (.Call (.Name cn np) [a] [] cpos) _) _ _ _) (fun v s3 z => wpAny_bind (wpAny_standAt (wpAny_pure z))) fun _ _ z => z))))
  refine wpAny_Call_Name_kw (ld_glob I gl hm ?_ hdb)
  refine PySem.W.callWith_K (h₀ := base) I.ok.mod.kin O.kp (wpAny_mono (ha cpos pins s1 σ H1 _ (I.wish _) h) (fun us s2 z => ?_) fun _ _ z => z.elim) he rfl
  obtain ⟨vs, H2, I2, r, v, ev, gv, qq⟩ := z
  have I2 := I2.unwish
  subst ev
  have kin := I2.kIn
  refine ⟨kin, ?_⟩
  obtain ⟨u, rfl, ru⟩ : ∃ u, us = [u] ∧ RelV v u := by
    cases r with
    | cons p r => cases r; exact ⟨_, rfl, p⟩
  obtain ⟨oI, lI, hcI⟩ := O.fl
  have hI := kin _ _ lI
  obtain ⟨hp, g, d, tk, os⟩ := s2
  refine xm_call PySem.F.excBase_ValueError (PySem.W.tail_of_in kin O.tl) (kin _ _ lC) (.of_isNs (PySem.W.isNs_of_in kin nsok)) (?_ : hp.nsMap Nn "__init__" = some (.ref fI)) hI hcI (by show 1 ≤ sizeLine; decide) fun h' e le made => ?_
  · exact ns_some kin (.of_isNs (PySem.W.isNs_of_in kin nsok)) nsi
  obtain ⟨t0, ge, _, _⟩ := made.there
  have I3 : Inv (cxOf (CX1 P w) P w K mg base N qual scope fn cd A outer s H E) pins σ (upd H2 e (newX e C none)) ⟨h', g, d, tk, os⟩ := I2.laid (h' := h') (t' := tk) made.keeps le (newX_ok ge)
  have fe : H2 e = none := I2.hok.fresh le
  have sp : spXI C f good [.ref e, v] (upd H2 e (newX e C none)) (fun x H4 => x = .non ∧ ∃ dx, H2 dx = none ∧ dx ≠ e ∧ H4 = upd (upd (upd H2 e (newX e C none)) dx (.xd [(f, v)])) e (newX e C (some dx))) E0 :=
    ⟨e, v, rfl, gv, upd_same, fun dx n1 n2 => ⟨rfl, dx, by rw [upd_ne n2] at n1; exact n1, n2, rfl⟩⟩
  have bd := hb ⟨h', g, d, tk, os⟩ [.ref e, u] I3.kIn rfl
  rw [List.append_nil] at bd
  refine wpAny_call (codeAny_mono (F.run _ _ _ _ ⟨[.ref e, u], []⟩ [.ref e, u] [.ref e, v] _ E0 (hr.make C [u] []) (I3.env0.make C [u] []) bd (.cons rfl (.cons ru .nil)) sp) fun res s4 z => ?_)
  cases res with
  | error ev => exact z.elim
  | ok fl =>
    cases fl with
    | next => exact z.elim
    | brk => exact z.elim
    | cont => exact z.elim
    | ret uv =>
      obtain ⟨x, H4, I4, rx, rfl, dx, n1, n2, rfl⟩ := I3.after z
      refine ⟨rx, e, ?_⟩
      have at4 := I4.hok e _ upd_same
      obtain ⟨⟨t4, g4⟩, _, _⟩ := at4
      have I5 := I4.untrack (e := e) upd_same
      have eH : cut (upd (upd (upd H2 e (newX e C none)) dx (.xd [(f, v)])) e (newX e C (some dx))) e = upd H2 dx (.xd [(f, v)]) := by
        funext b
        by_cases zb : b = e
        · rw [zb, cut_at, upd_ne (Ne.symm n2), fe]
        · rw [cut_ne zb, upd_ne zb]
          by_cases zd : b = dx
          · rw [zd, upd_same, upd_same]
          · rw [upd_ne zd, upd_ne zd, upd_ne zb]
      rw [eH] at I5
      refine ⟨t4, some dx, rfl, I4.kIn _ _ lC, g4, xe_made I5 g4 rfl rfl ?_ (by rw [upd_ne (Ne.symm n2)]; exact fe) (qq dx n1)⟩
      exact Heap.get?_none_of_le (Nat.le_trans I2.sz le)
end
end L2
end
section
set_option maxHeartbeats 4000001
namespace L2
open PySem PySem.Spec PyProof.Rows
theorem bx_bind (self : Value) : bindSpecial (.builtin "BaseException.__getattribute__") self = pure (.builtin "BaseException.__getattribute__", [self]) := by kernel_rfl
theorem bx_kind : builtinKind "BaseException.__getattribute__" = some .slot := by decide +kernel
theorem bx_split : splitId "BaseException.__getattribute__" = some ("BaseException", "__getattribute__") := by decide +kernel
theorem bx_plain : plainId "BaseException.__getattribute__" = true := by decide +kernel
section
variable {prog : Program} {w : World} {A : Around} {E : Value → Shared → Prop} {K : PySem.W.Frag} {s : Shared} {x C : Addr} {ox : Obj} {od : Option Obj} {name : Str} {tk : Tok}
theorem xg_run {Q : Value → Shared → Prop} (X : K.In s.heap) (I : PySem.W.InstAt s.heap x ox C od) (mb : PySem.W.mroIn K C (.type "BaseException") = some true) (r : Builtin.ObjectAttr.Found) (hf : PySem.W.findObj K C od name = some r)
    (h : match r with | .value v => Q v s | .bind g a => wpAny (model prog w) A.in1 (Builtin.ObjectAttr.bindTo g a (.ref x) (.ref C)) (fun fin s' => match fin with | .done (.ret v) => Q v s' | _ => False) E s | .missing => False) :
    wpAny (model prog w) A (boundAndCalled (.builtin "BaseException.__getattribute__") (.ref x) (.str name tk)) Q E s := by
  unfold boundAndCalled
  rw [bx_bind]
  refine wpAny_bind (wpAny_pure (wpAny_call ?_))
  have isB : PySem.W.Looks (model prog w) s.heap (isInstance (.ref x) (.type "BaseException")) true := I.type.andThen (PySem.W.looks_mroIn X mb)
  refine codeAny_call_builtin bx_plain PySem.F.entry_bexc_ga ?_
  have ck := @PySem.W.check_slot (model prog w) A.in1 E s "BaseException.__getattribute__" "BaseException" "__getattribute__" (.ref x) [.str name tk] []
  refine ck bx_kind bx_split isB (PySem.F.args_bexc_ga _ _) ?_
  delta Builtin.«object.__getattribute__»; skip
  have sa : slotArgs "__getattribute__" 1 ⟨[.ref x, .str name tk], []⟩ = pure (.ref x, [.str name tk]) := rfl
  show wpAny _ _ (slotArgs "__getattribute__" 1 ⟨[.ref x, .str name tk], []⟩ >>= _) _ _ _
  rw [sa]
  refine wpAny_bind (wpAny_pure (wpAny_bind (wpAny_pure ?_))); refine wpAny_bind (I.type _ _ _ _ (fun _ _ z => z) ?_)
  refine wpAny_bind (PySem.W.looks_find X I hf _ _ _ _ (fun _ _ z => z) ?_)
  cases r with
  | value v => exact wpAny_pure h
  | bind g a =>
    refine wpAny_mono h (fun fin s' z => ?_) fun _ _ z => z
    cases fin with
    | done f =>
      cases f with
      | ret v => exact z
      | next => exact z.elim
      | brk => exact z.elim
      | cont => exact z.elim
    | again c => exact z.elim
  | missing => exact h.elim
theorem xg_get {fill expr : Bool} {r : Builtin.ObjectAttr.Found} {Q : Value → Shared → Prop} (X : K.In s.heap) (I : PySem.W.InstAt s.heap x ox C od) (ga : PySem.W.findIn K (.ref C) "__getattribute__" = some (some (.builtin "BaseException.__getattribute__"))) (gh : PySem.W.findIn K (.ref C) "__getattr__" = some none) (mb : PySem.W.mroIn K C (.type "BaseException") = some true)
    (hf : PySem.W.findObj K C od name = some r)
    (h : match r with | .value v => wpAny (model prog w) A (handedOut v) Q E s | .bind g a => wpAny (model prog w) A.in1 (Builtin.ObjectAttr.bindTo g a (.ref x) (.ref C)) (fun fin s' => match fin with | .done (.ret v) => wpAny (model prog w) A (handedOut v) Q E s' | _ => False) (fun _ _ => False) s | .missing => False) :
    wpAny (model prog w) A (getAttrBy (.ref x) (.str name tk) fill expr) Q E s := by
  unfold getAttrBy
  refine wpAny_holding (wpAny_bind (I.type _ _ _ _ (fun _ _ z => z) (wpAny_bind (PySem.W.looks_findIn X ga _ _ _ _ (fun _ _ z => z) ?_))))
  show wpAny _ _ (if (true && Value.builtin "BaseException.__getattribute__" == Value.builtin "object.__getattribute__") = true then _ else _) _ _ _
  rw [if_neg (by decide)]
  unfold getAttrByItsOwn hookBefore
  show wpAny _ _ (typeLookup (.ref C) "__getattr__" >>= _) _ _ _
  refine wpAny_bind (PySem.W.looks_findIn X gh _ _ _ _ (fun _ _ z => z) ?_)
  refine wpAny_bind (wpAny_attempt (wpAny_holding ?_)); unfold callGetattribute
  show wpAny _ _ (if (expr && false) = true then _ else _) _ _ _
  rw [Bool.and_false, if_neg (by decide)]
  refine xg_run X I mb r hf ?_
  cases r with
  | value v => exact h
  | bind g a => exact wpAny_mono h (fun _ _ z => z) fun _ _ z => z.elim
  | missing => exact h
theorem xg_class {od : Obj} {Q : Option Value → Shared → Prop} (X : K.In s.heap) (I : PySem.W.InstAt s.heap x ox C (some od)) (ga : PySem.W.findIn K (.ref C) "__getattribute__" = some (some (.builtin "BaseException.__getattribute__"))) (gh : PySem.W.findIn K (.ref C) "__getattr__" = some none) (mb : PySem.W.mroIn K C (.type "BaseException") = some true) (mo : PySem.W.mroIn K C (.type "object") = some true)
    (hf : PySem.W.findObj K C (some od) "__class__" = some (.bind (.builtin "getset_descriptor.__get__") (.builtin "object.__class__"))) (h : Q (some (.ref C)) { s with toks := s.toks + 1 }) : wpAny (model prog w) A (getAttr? (.ref x) "__class__") Q E s := by
  unfold getAttr? getAttrBy?
  refine wpAny_bind (wpAny_mkText (wpAny_bind (wpAny_attempt ?_)))
  refine xg_get (s := { s with toks := s.toks + 1 }) X I ga gh mb hf ?_
  unfold Builtin.ObjectAttr.bindTo
  refine wpAny_bind (wpAny_holding (wpAny_call (PySem.W.class_get (s := { s with toks := s.toks + 1 }) X I mo ?_)))
  exact wpAny_pure (wpAny_pure (wpAny_pure h))
end
end L2
end
section
set_option maxHeartbeats 4000001
namespace L2
open PySem PySem.Spec PyProof.Rows
structure XIs (K : PySem.W.Frag) (C : Addr) : Prop where
  ga : PySem.W.findIn K (.ref C) "__getattribute__" = some (some (.builtin "BaseException.__getattribute__"))
  gh : PySem.W.findIn K (.ref C) "__getattr__" = some none
  mb : PySem.W.mroIn K C (.type "BaseException") = some true
  mo : PySem.W.mroIn K C (.type "object") = some true
  ca : PySem.W.findIn K (.ref C) "__class__" = some (some (.builtin "object.__class__"))
  gg : PySem.W.specialIn K (.builtin "object.__class__") "__get__" = some (some (.builtin "getset_descriptor.__get__"))
  gt : PySem.W.takesIn K (.builtin "object.__class__") = some true
  hd : PySem.W.hasDictIn K C = true
theorem cls_at {K : PySem.W.Frag} {C : Addr} {cd : ClassData} (e : PySem.W.clsIn K C = some cd) : ∃ a b c, K.lookup C = some ⟨a, b, .cls cd, c⟩ := by
  unfold PySem.W.clsIn at e
  split at e
  · rename_i a b cd' c hl
    obtain rfl := Option.some.inj e
    exact ⟨a, b, c, hl⟩
  · cases e
theorem kitx_exc {K : PySem.W.Frag} {e C : Addr} (Z : XIs K C) : PySem.W.KitX K (.ref e) (.ref C) (fun h => ∃ ox od, PySem.W.InstAt h e ox C (some od)) where
  ty := fun _ _ _ ⟨_, _, I⟩ => I.type
  it := fun M h X _ => by
    obtain ⟨cd, hc, _⟩ := PySem.W.any_some Z.hd
    obtain ⟨a, b, c, hl⟩ := cls_at hc
    exact (PySem.W.Looks.ld (X _ _ hl)).andThen .now
  ne := fun h tp dd its n sl X ht => by
    obtain ⟨cd, hc, _⟩ := PySem.W.any_some Z.hd
    obtain ⟨a, b, c, hl⟩ := cls_at hc
    refine beq_eq_false_iff_ne.mpr fun z => ?_
    obtain rfl := Value.ref.inj z
    rw [X _ _ hl] at ht
    cases ht
  ca := fun X ⟨ox, od, I⟩ q => xg_class X I Z.ga Z.gh Z.mb Z.mo (PySem.W.findObj_data (by
    obtain ⟨cd, hc, _⟩ := PySem.W.any_some Z.hd
    rw [hc]; rfl) Z.ca Z.gg Z.gt) q
section
variable {X : Cx} {pins : List (Addr × Obj)} {σ : St} {H : Hp} {s : Shared}
theorem exc_inst {e C dx : Addr} {fs : List (Str × V)} (I : Inv X pins σ H s) (he : H e = some (excO e C (some dx))) (hx : H dx = some (.xd fs)) : ∃ ox od, PySem.W.InstAt s.heap e ox C (some od) ∧ s.heap.get? dx = some od := by
  obtain ⟨⟨o, g, c, d, vs, dt⟩, _, _⟩ := I.hok e _ he
  obtain ⟨mA, ⟨od, es, ep, g2, _⟩, _⟩ := I.hok dx _ hx
  refine ⟨o, od, ⟨g, c, by unfold PySem.W.notCls; rw [dt], by rw [d]; exact g2⟩, g2⟩
def rIsiX (K : PySem.W.Frag) : List V → Hp → VK → Prop := fun vs H Q => ∃ e C dx fs c k, vs = [.ref e, c] ∧ XIs K C ∧ H e = some (excO e C (some dx)) ∧ H dx = some (.xd fs) ∧
  ((∃ T, c = .ty T ∧ PySem.W.kitOne K (.ref C) (.type T) = some k) ∨ (∃ D, c = .ref D ∧ PySem.W.kitOne K (.ref C) (.ref D) = some k) ∨ ∃ (tp : Addr) (Ds : List Addr), c = .ref tp ∧ H tp = some (.tup (Ds.map V.ref)) ∧ PySem.W.kitAny K (.ref C) (Ds.map Value.ref) = some k) ∧ Q (.bl k) H
theorem vals_refs : ∀ {Ds : List Addr} {us : List Value}, Vals (Ds.map V.ref) us → us = Ds.map Value.ref
  | [], _, r => by cases r; rfl
  | D :: Ds, _, r => by
    cases r with
    | cons p r => rw [show _ = Value.ref D from p, vals_refs r]; rfl
theorem call_isiX : CallR X (.builtin "isinstance") (rIsiX X.K) := by
  intro pins s σ H vs us Q I rv h
  obtain ⟨e, C, dx, fs, c, k, rfl, Z, he, hx, hc, q⟩ := h
  obtain ⟨u, v, rfl, ru, rc⟩ := rv.two
  obtain rfl : u = Value.ref e := ru
  obtain ⟨ox, od, J, _⟩ := exc_inst I he hx
  rcases hc with ⟨T, rfl, hk⟩ | ⟨D, rfl, hk⟩ | ⟨tp, Ds, rfl, ht, hk⟩
  · obtain rfl : v = Value.type T := rc
    exact PySem.W.kia_one (kitx_exc Z) I.kIn ⟨ox, od, J⟩ hk (fun z => nomatch z) fun tk => ⟨.bl k, H, I.tok tk, rfl, q⟩
  · obtain rfl : v = Value.ref D := rc
    exact PySem.W.kia_one (kitx_exc Z) I.kIn ⟨ox, od, J⟩ hk (fun z => nomatch z) fun tk => ⟨.bl k, H, I.tok tk, rfl, q⟩
  · obtain rfl : v = Value.ref tp := rc
    obtain ⟨_, its, r, ot, g, oc, n, od', _⟩ := I.hok tp _ ht
    obtain rfl := vals_refs r
    obtain ⟨c1, d1, dt1, sl1⟩ := ot
    obtain rfl : c1 = .type "tuple" := oc
    obtain rfl : dt1 = .seq (Ds.map Value.ref).toArray n := od'
    exact PySem.W.kia_tup (kitx_exc Z) I.kIn ⟨ox, od, J⟩ g hk (fun z => nomatch z) fun tk => ⟨.bl k, H, I.tok tk, rfl, q⟩
def tXFld (K : PySem.W.Frag) (ta : TE) (f : Str) : TE := fun σ H Q => ta σ H fun x H1 => ∃ e C dx fs v, x = .ref e ∧ XIs K C ∧ H1 e = some (excO e C (some dx)) ∧ H1 dx = some (.xd fs) ∧ PySem.W.findIn K (.ref C) f = some none ∧ fs.lookup f = some v ∧ Q v H1
theorem pe_xfld {o : Expr} {f : Str} {pos : Pos} {ta : TE} (he : PE X o ta) (hb : attributeBase o f X.env (eval o X.env) = eval o X.env := by rfl) : PE X (.Attribute o f pos) (tXFld X.K ta f) := by
  intro pins s σ H Q I h
  refine attr_of hb (thn (he pins s σ H _ I h) fun u s1 ⟨x, H1, I1, rx, e, C, dx, fs, v, ex, Z, ee, ed, hf, hl, q⟩ => ?_)
  subst ex
  obtain rfl : u = Value.ref e := rx
  obtain ⟨ox, od, J, hod⟩ := exc_inst I1 ee ed
  obtain ⟨mA, ns, r⟩ := I1.hok dx _ ed
  obtain ⟨od', hod', look⟩ := lookIn_ns ns
  obtain rfl : od = od' := Option.some.inj (hod.symm.trans hod')
  obtain ⟨u, hu, ru⟩ := RelO.some_of (v := v) (o := mA f) (by rw [← hl]; exact r f)
  refine wpAny_bind (wpAny_mkText (xg_get (s := { s1 with toks := s1.toks + 1 }) (r := .value u) I1.kIn J Z.ga Z.gh Z.mb (PySem.W.findObj_own Z.hd hf rfl (by rw [look f, hu])) ?_))
  exact PySem.W.handed_on (handed_of ru) ⟨v, H1, I1.tok _, ru, q⟩
end
end L2
end
section
set_option maxHeartbeats 4000001
namespace Bn
open PySem L2 Own
end Bn
end
section
set_option maxHeartbeats 4000001
namespace Bn
open PySem L2 Own
def dN (q : Nat → Bool) : Nat → Nat
  | 0 => 0
  | n + 1 => dN q n + (if q n = true then 1 else 0)
def hasG (gs : List Grp) (j l : Nat) : Bool := gs.any fun g => decide (g.fork = j ∧ g.lane = l)
def later (N : Nt) (j : Nat) : Nat := if j < N.forks.length then 2 * (N.forks.length - 1 - j) + N.lanes else 0
def far (N : Nt) (gs : List Grp) (j : Nat) : Nat := later N j + dN (hasG gs j) N.lanes
end Bn
end
section
set_option maxHeartbeats 4000001
namespace Bn
open PySem L2 Own
def cf (cs : List Int) : Nat → Int := fun l => cs.getD l 0
end Bn
end
section
set_option maxHeartbeats 4000001
namespace L2
open PySem PySem.Spec PyProof.Rows
section
variable {P : Program} {w : World} {K : PySem.W.Frag} {mg : Str → Option Value} {base : Heap} {k : Nat} {f : Addr} {fd : FuncData} {ps : List Str}
end
end L2
end
section
set_option maxHeartbeats 4000001
namespace K26
open PySem L2 Own Bn
abbrev sDInit : Stmt := inClass (top 2) 0
def goodP (v : V) : Prop := v = .int 0
section
variable {P : Program} {w : World} {K : PySem.W.Frag} {mg : Str → Option Value} {base : Heap}
theorem scDq : FnScope ["self", "place"] ["self", "place"] (defScope sDInit) := ⟨rfl, rfl, rfl, by decide +kernel, rfl, by decide +kernel, by decide +kernel⟩
theorem ok_dinit {f C L : Addr} {fd : FuncData} (F : Fun K "__init__" "NoDeed.__init__" sDInit f fd) (B : XBase K L) (O : XOwn K C L f) (mL : mg "LaneError" = some (.ref L)) (na : PySem.W.findIn K (.ref C) "place" = some none) : FnOk P w K mg base CX0 1 f fd ["self", "place"] (spXI C "place" goodP) := by
  refine F.ok scDq (fun vs H Q E h => ?_) (fun cdv A outer s H vs Q E hr h => ?_)
  · obtain ⟨e, v, rfl, _⟩ := h
    rfl
  obtain ⟨e, v, rfl, rfl, he, k⟩ := h
  refine ⟨_, (@pss_cons _ _ _ _ _ (@ps_expr _ _ _ _ (pe_xinit (C := C) (fI := f) B O rfl mL (@pa_cons _ _ _ _ _ (@pv _ 0 _ _ (by rfl) (by first | exact Or.inl rfl | exact Or.inr (Or.inl rfl) | exact Or.inr (Or.inr rfl)) (by decide) (by decide)) (@pa_cons _ _ _ _ _ (@pe_fstr _ _ _ _ _ _ (pfs_str (pfs_int (@pv _ 1 _ _ (by rfl) (by first | exact Or.inl rfl | exact Or.inr (Or.inl rfl) | exact Or.inr (Or.inr rfl)) (by decide) (by decide)) pfs_nil))) pa_nil (by rfl)) (by rfl))) (by rfl)) (@pss_one _ _ _ (ps_xset (f := "place") O na (@pv _ 0 _ _ (by rfl) (by first | exact Or.inl rfl | exact Or.inr (Or.inl rfl) | exact Or.inr (Or.inr rfl)) (by decide) (by decide)) (@pv _ 1 _ _ (by rfl) (by first | exact Or.inl rfl | exact Or.inr (Or.inl rfl) | exact Or.inr (Or.inr rfl)) (by decide) (by decide))))), ?_⟩
  have e0 : Str.empty.length = 0 := rfl
  refine ⟨_, rfl, by decide, _, rfl, 0, rfl, by decide, ?_, ?_⟩
  · rw [sizeLine_eq]; decide +kernel
  refine ⟨e, _, none, rfl, he, ?_⟩
  refine ⟨_, rfl, _, rfl, e, rfl, he, fun dx n1 n2 => k dx n1 n2⟩
end
end K26
end
section
set_option maxHeartbeats 4000001
namespace K26
open PySem L2 Own Bn
def spTStartX (K : PySem.W.Frag) (C CD : Addr) : Sp := fun vs H _ E => ∃ (A : Tad) (N : Nt) (S : Tst) (x : V), vs = [.ref A.t, x] ∧ TelAt C H A N S ∧ AnyT K H x ∧ belowV (N.lanes : Nat) x = false ∧
  ∀ dx, H dx = none → E (.ref CD) (some dx) (L2.upd H dx (.xd [("place", .int 0)]))
def spTStepX (K : PySem.W.Frag) (C CD : Addr) : Sp := fun vs H _ E => ∃ (A : Tad) (N : Nt) (S : Tst) (x : V), vs = [.ref A.t, x] ∧ TelAt C H A N S ∧ AnyT K H x ∧ (belowV (S.spots.length : Nat) x = false ∨ ∃ i : Nat, x = .int (i : Nat) ∧ S.spots[i]? = some none) ∧
  ∀ dx, H dx = none → E (.ref CD) (some dx) (L2.upd H dx (.xd [("place", .int 0)]))
section
variable {P : Program} {w : World} {K : PySem.W.Frag} {mg : Str → Option Value} {base : Heap} {C : Addr}
theorem ok_tstartx {f fB CD L fI : Addr} {fd dB dI : FuncData} (F : Fun K "start" "Teller.start" sTStart f fd) (G : Mgs mg) (T : Txt K mg C) (UB : Use P w K mg base "is_below" ["thing", "bound"] 2 (spBelow K) fB dB)
    (O : XOwn K CD L fI) (UI : FnOk P w K mg base CX0 1 fI dI ["self", "place"] (spXI CD "place" goodP)) (bI : Binds K dI ["self", "place"] []) (mD : mg "NoDeed" = some (.ref CD)) : FnOk P w K mg base (CX1 P w) 3 f fd ["self", "lane"] (spTStartX K C CD) := by
  refine F.ok1 scTs (fun vs H Q E h => ?_) (fun cdv A outer s H vs Q E hr h => ?_)
  · obtain ⟨A', N, S, x, rfl, _⟩ := h
    rfl
  obtain ⟨A', N, S, x, rfl, te, ax, hb, k⟩ := h
  have hr2 : Room 2 _ := hr.mono (by decide)
  refine ⟨_, (@pss_cons _ _ _ _ _ (@ps_if _ _ _ _ _ _ _ _ (@pt_not _ _ _ _ (@pt_val _ _ _ (@pe_call _ _ _ _ _ _ _ _ _ _ _ _ _ _ _ _ UB.ok hr (by rfl) UB.m UB.kp UB.b .nil pass0 (@pa_cons _ _ _ _ _ (@pv _ 1 _ _ (by rfl) (by first | exact Or.inl rfl | exact Or.inr (Or.inl rfl) | exact Or.inr (Or.inr rfl)) (by decide) (by decide)) (@pa_cons _ _ _ _ _ (@pe_ix _ _ _ _ _ _ _ ix_tup (@pe_fld _ _ _ _ _ (@pv _ 0 _ _ (by rfl) (by first | exact Or.inl rfl | exact Or.inr (Or.inl rfl) | exact Or.inr (Or.inr rfl)) (by decide) (by decide)) rfl) pe_int (fun _ _ => rfl)) pa_nil (by rfl)) (by rfl)) (by decide) (by rfl) (by rfl)) (by intro _; rfl))) (@pss_one _ _ _ (ps_raiseX O UI bI hr2 rfl mD (@pa_cons _ _ _ _ _ pe_int pa_nil (by rfl)))) pss_nil) pss_dead), ?_⟩
  obtain ⟨dx, ob⟩ := te.ob
  refine ⟨_, rfl, _, rfl, A'.t, C, dx, _, _, rfl, ob, T.cl, T.nN, fl_net, A'.r, _, 0, _, rfl, rfl, SqT.of te.na.net, rfl, _, _, rfl, ax, _, rfl, ?_⟩
  rw [hb]
  exact iteT ⟨_, rfl, rfl, k⟩
theorem ok_tstepx {f fB CD L fI : Addr} {fd dB dI : FuncData} (F : Fun K "step" "Teller.step" sTStep f fd) (G : Mgs mg) (T : Txt K mg C) (UB : Use P w K mg base "is_below" ["thing", "bound"] 2 (spBelow K) fB dB)
    (O : XOwn K CD L fI) (UI : FnOk P w K mg base CX0 1 fI dI ["self", "place"] (spXI CD "place" goodP)) (bI : Binds K dI ["self", "place"] []) (mD : mg "NoDeed" = some (.ref CD)) : FnOk P w K mg base (CX1 P w) 3 f fd ["self", "ball"] (spTStepX K C CD) := by
  refine F.ok1 scTp (fun vs H Q E h => ?_) (fun cdv A outer s H vs Q E hr h => ?_)
  · obtain ⟨A', N, S, x, rfl, _⟩ := h
    rfl
  obtain ⟨A', N, S, x, rfl, te, ax, hb, k⟩ := h
  have hr2 : Room 2 _ := hr.mono (by decide)
  refine ⟨_, (@pss_cons _ _ _ _ _ (@ps_if _ _ _ _ _ _ _ _ (@pw_or _ _ _ _ _ _ _ (@pt_not _ _ _ _ (@pt_val _ _ _ (@pe_call _ _ _ _ _ _ _ _ _ _ _ _ _ _ _ _ UB.ok hr (by rfl) UB.m UB.kp UB.b .nil pass0 (@pa_cons _ _ _ _ _ (@pv _ 1 _ _ (by rfl) (by first | exact Or.inl rfl | exact Or.inr (Or.inl rfl) | exact Or.inr (Or.inr rfl)) (by decide) (by decide)) (@pa_cons _ _ _ _ _ (@pe_callB _ _ _ _ _ _ _ _ _ call_len_seq (by rfl) G.len PySem.boot_len (@pa_cons _ _ _ _ _ (@pe_fld _ _ _ _ _ (@pv _ 0 _ _ (by rfl) (by first | exact Or.inl rfl | exact Or.inr (Or.inl rfl) | exact Or.inr (Or.inr rfl)) (by decide) (by decide)) rfl) pa_nil (by rfl)) (by decide) (by decide) (by rfl) (by rfl)) pa_nil (by rfl)) (by rfl)) (by decide) (by rfl) (by rfl)) (by intro _; rfl))) (@pw_or1 _ _ _ _ (@pt_cmpR _ _ _ _ _ _ _ _ op_isN (@pe_ix _ _ _ _ _ _ _ ix_list (@pe_fld _ _ _ _ _ (@pv _ 0 _ _ (by rfl) (by first | exact Or.inl rfl | exact Or.inr (Or.inl rfl) | exact Or.inr (Or.inr rfl)) (by decide) (by decide)) rfl) (@pv _ 1 _ _ (by rfl) (by first | exact Or.inl rfl | exact Or.inr (Or.inl rfl) | exact Or.inr (Or.inr rfl)) (by decide) (by decide)) (fun _ _ => rfl)) pe_non (by rfl)))).pt (@pss_one _ _ _ (ps_raiseX O UI bI hr2 rfl mD (@pa_cons _ _ _ _ _ pe_int pa_nil (by rfl)))) pss_nil) pss_dead), ?_⟩
  obtain ⟨dx, ob⟩ := te.ob
  obtain ⟨sp, hp, sr⟩ := te.hp
  have sl := sr.1
  refine ⟨_, rfl, _, rfl, A'.t, C, dx, _, _, rfl, ob, T.cl, T.nP, fl_spo, A'.lp, _, rfl, .inl (SqL.of hp), _, _, rfl, ax, _, rfl, ?_⟩
  rw [sl]
  by_cases c : belowV (S.spots.length : Nat) x = false
  · rw [c]
    exact iteT (iteT ⟨_, rfl, rfl, k⟩)
  · obtain ⟨i, rfl, hi⟩ := hb.resolve_left c
    have il : i < sp.length := by have := (List.getElem?_eq_some_iff.mp hi).1; lia
    have hx : sp[i]? = some sp[i] := List.getElem?_eq_getElem il
    have sn : sp[i] = .non := sr.2 i _ _ hx hi
    rw [sn] at hx
    rw [show belowV (S.spots.length : Nat) (.int (i : Nat)) = true from by simpa using c]
    refine iteF ⟨_, rfl, A'.t, C, dx, _, _, rfl, ob, T.cl, T.nP, fl_spo, _, rfl, A'.lp, _, _, _, rfl, rfl, SqL.of hp, atI_nat hx, rfl, _, rfl, ?_⟩
    rw [decide_eq_true rfl]
    exact iteT ⟨_, rfl, rfl, k⟩
end
end K26
end
section
set_option maxHeartbeats 4000001
namespace L2
open PySem PySem.Spec PyProof.Rows Own
abbrev FZ (o : Obj) : HO := .frz o (.ext fun _ => True)
theorem fz_ok {P : Program} {w : World} {H : Hp} {h : Heap} {a : Addr} {o : Obj} (e : h.get? a = some o) : ObjOk P w H h a (FZ o) := ⟨e, trivial, ⟨o, e⟩, fun _ _ _ _ => trivial⟩
structure Lam where
  params : Arguments
  body : Expr
  scope : Scope
  qual : Str
def lamO (L : Lam) (cl : List (Str × Addr)) (pm : Value) (c : Addr) (ct : Value) : Obj := PySem.W.kla_obj "<lambda>" L.qual L.params L.body L.scope cl pm c ct
structure LamAt (H : Hp) (f : Addr) (L : Lam) (cl : List (Str × Addr)) (vs : List V) : Prop where
  ex : ∃ (pm : Value) (c : Addr) (ct : Value) (oc : Obj) (fs : Array Value) (t : Tok), H f = some (FZ (lamO L cl pm c ct)) ∧ H c = some (FZ oc) ∧ oc.data = .fields fs ∧ fs[1]? = some (.str L.qual t)
  len : cl.length = vs.length
  cell : ∀ (i : Nat) x c v, cl[i]? = some (x, c) → vs[i]? = some v → ∃ o u, H c = some (FZ o) ∧ o.data = .cell (some u) ∧ RelV v u
  nd1 : (cl.map (·.1)).Nodup
  nd2 : (cl.map (·.2)).Nodup
def strip (cl : List (Str × Addr)) (H : Hp) : Hp := fun b => if b ∈ cl.map (·.2) then none else H b
def back (cl : List (Str × Addr)) (H H' : Hp) : Hp := fun b => if b ∈ cl.map (·.2) then H b else H' b
theorem strip_in {cl : List (Str × Addr)} {H : Hp} {b : Addr} (h : b ∈ cl.map (·.2)) : strip cl H b = none := if_pos h
theorem strip_out {cl : List (Str × Addr)} {H : Hp} {b : Addr} (h : b ∉ cl.map (·.2)) : strip cl H b = H b := if_neg h
theorem back_in {cl : List (Str × Addr)} {H H' : Hp} {b : Addr} (h : b ∈ cl.map (·.2)) : back cl H H' b = H b := if_pos h
theorem back_out {cl : List (Str × Addr)} {H H' : Hp} {b : Addr} (h : b ∉ cl.map (·.2)) : back cl H H' b = H' b := if_neg h
theorem strip_some {cl : List (Str × Addr)} {H : Hp} {b : Addr} {o : HO} (h : strip cl H b = some o) : b ∉ cl.map (·.2) ∧ H b = some o := by
  by_cases c : b ∈ cl.map (·.2)
  · rw [strip_in c] at h; cases h
  · rw [strip_out c] at h; exact ⟨c, h⟩
def CellsFz (cl : List (Str × Addr)) (H : Hp) : Prop := ∀ b ∈ cl.map (·.2), ∃ o, H b = some (FZ o)
theorem LamAt.fz {H : Hp} {f : Addr} {L : Lam} {cl : List (Str × Addr)} {vs : List V} (h : LamAt H f L cl vs) : CellsFz cl H := fun b hb => by
  obtain ⟨⟨x, c⟩, hc, rfl⟩ := List.mem_map.mp hb
  obtain ⟨i, il, e⟩ := List.mem_iff_getElem.mp hc
  have iv : i < vs.length := by rw [← h.len]; exact il
  obtain ⟨o, u, q1, _⟩ := h.cell i x c vs[i] (by rw [List.getElem?_eq_getElem il, e]) (List.getElem?_eq_getElem iv)
  exact ⟨o, q1⟩
section
variable {P : Program} {w : World} {H H' : Hp} {h h' : Heap} {cl : List (Str × Addr)}
theorem hok_strip (x : HOk P w H h) (fz : CellsFz cl H) : HOk P w (strip cl H) h := fun b u e => by
  obtain ⟨nb, e'⟩ := strip_some e
  have keep : ∀ {c : Addr} {o : HO}, H c = some o → (∀ q, o ≠ FZ q) → strip cl H c = some o := fun {c o} z n => by
    rw [strip_out]; · exact z
    · intro hc
      obtain ⟨q, hq⟩ := fz c hc
      rw [z] at hq
      exact n q (Option.some.inj hq)
  exact (x b u e').stay (fun c v _ q => q) (fun c q => keep q fun z y => by cases y) fun c xs q => keep q fun z y => by cases y
theorem un_back {fs : List Addr} (un : Un fs [] (strip cl H) H' h h') (fz : CellsFz cl H) (nf : ∀ b ∈ fs, H b = none) (there : ∀ b o, H b = some (FZ o) → h.get? b = some o) (low : ∀ b ∈ cl.map (·.2), H' b = none) (ok : HOk P w H' h') : Un fs [] H (back cl H H') h h' ∧ HOk P w (back cl H H') h' := by
  have nc : ∀ {b : Addr}, H b = none → b ∉ cl.map (·.2) := fun e hb => by
    obtain ⟨o, q⟩ := fz _ hb
    rw [e] at q; cases q
  have kept : ∀ b ∈ cl.map (·.2), ∀ o, h.get? b = some o → h'.get? b = some o := fun b hb o e => un.keep b o e (strip_in hb) (fun z => nc (nf b z) hb) (by simp)
  have oth : ∀ {b : Addr} {o : HO}, H b = some o → (∀ q, o ≠ FZ q) → b ∉ cl.map (·.2) := fun z n hb => by
    obtain ⟨q, hq⟩ := fz _ hb
    rw [z] at hq
    exact n q (Option.some.inj hq)
  refine ⟨⟨fun b o e n x y => un.keep b o e (by rw [strip_out (nc n)]; exact n) x y, fun b o e n x y => un.slot b o e (by rw [strip_out (nc n)]; exact n) x y, fun b o e n y => ?_, un.there, fun b xs e => ?_, fun b o u e => ?_, fun b ps e => ?_⟩, fun b u e => ?_⟩
  · rw [back_out (nc n)]
    exact un.free b o e (by rw [strip_out (nc n)]; exact n) y
  · have nb := oth e fun q z => by cases z
    rw [back_out nb]; exact un.tups b xs (by rw [strip_out nb]; exact e)
  · by_cases c : b ∈ cl.map (·.2)
    · rw [back_in c]; exact e
    · rw [back_out c]; exact un.frzs b o u (by rw [strip_out c]; exact e)
  · have nb := oth e fun q z => by cases z
    rw [back_out nb]; exact un.tbls b ps (by rw [strip_out nb]; exact e)
  · by_cases c : b ∈ cl.map (·.2)
    · rw [back_in c] at e
      obtain ⟨o, q⟩ := fz b c
      rw [q] at e
      cases e
      exact fz_ok (kept b c o (there b o q))
    · rw [back_out c] at e
      have old : ∀ {x : Addr} {o : HO}, H' x = some o → back cl H H' x = some o := fun {x o} z => by
        rw [back_out]; · exact z
        · intro hx
          rw [low x hx] at z; cases z
      exact (ok b u e).stay (fun x v _ q => q) (fun x q => old q) fun x xs q => old q
end
def envL (L : Lam) (cl : List (Str × Addr)) (Lc f c : Addr) : Env := { scope := L.scope, locals := Lc, globals := mainGlobals, cells := cl, qual := L.qual ++ ".<locals>.", func := some f, code := .ref c, frame := some Lc, builtins := builtinsNs }
def cxLam (CX : CXT) (P : Program) (w : World) (K : PySem.W.Frag) (mg : Str → Option Value) (base : Heap) (N : List Str) (L : Lam) (cl : List (Str × Addr)) (f c : Addr) (A : Around) (outer : List Env) (s : Shared) (H : Hp) (E : XK) : Cx where
  prog := P
  w := w
  K := K
  mg := mg
  base := base
  A := A.deeper (envL L cl s.heap.objs.size f c)
  N := N
  s₀ := s
  H₀ := strip cl H
  env := envL L cl s.heap.objs.size f c
  outer := outer
  stack := envL L cl s.heap.objs.size f c :: outer
  ex := []
  calm := true
  fn := fun _ => false
  pn := []
  xe := fun e s' => wpAny (model P w) (A.deeper (envL L cl s.heap.objs.size f c)) (leaving (envL L cl s.heap.objs.size f c) e) (fun _ s'' => CX outer H s E e s'') (fun e' s'' => CX outer H s E e' s'') s'
structure LamScope (ps fr : List Str) (sc : Scope) : Prop where
  kind : sc.kind = .function
  co : sc.isCoroutine = false
  gen : sc.isGenerator = false
  nd : (ps ++ fr).Nodup
  par : ∀ x ∈ ps, sc.names.lookup x = some .local
  fre : ∀ x ∈ fr, sc.names.lookup x = some .free
  noc : ∀ y ∈ sc.names, y.2 ≠ .cell
  all : ∀ x, sc.names.lookup x = some .free → x ∈ fr
end L2
end
section
set_option maxHeartbeats 4000001
namespace L2
open PySem PySem.Spec PyProof.Rows Own
section
variable {CX : CXT} {P : Program} {w : World} {K : PySem.W.Frag} {mg : Str → Option Value} {base : Heap} {L : Lam} {cl : List (Str × Addr)} {vals vs : List V} {ps : List Str} {f c : Addr} {A : Around} {outer : List Env} {s : Shared} {H : Hp} {us : List Value} {Q : VK} {E : XK}
theorem look_at {cl : List (Str × Addr)} (nd : (cl.map (·.1)).Nodup) : ∀ {i : Nat} {x : Str} {c : Addr}, cl[i]? = some (x, c) → cl.lookup x = some c := by
  induction cl with
  | nil => intro i x c h; cases h
  | cons p r ih =>
    intro i x c h
    rw [List.map_cons, List.nodup_cons] at nd
    cases i with
    | zero =>
      cases Option.some.inj h
      rw [List.lookup_cons, beq_self_eq_true]
    | succ i =>
      have m := List.mem_of_getElem? (show r[i]? = some (x, c) from h)
      rw [List.lookup_cons, show (x == p.1) = false from beq_eq_false_iff_ne.mpr fun z => nd.1 (List.mem_map.mpr ⟨_, m, z⟩)]
      exact ih nd.2 (show r[i]? = some (x, c) from h)
theorem rev_lookup {ps : List Str} {us : List Value} (nd : ps.Nodup) (hl : us.length = ps.length) {i : Nat} {x : Str} {u : Value} (hx : ps[i]? = some x) (hu : us[i]? = some u) : (ps.zip us).reverse.lookup x = some u := by
  have nd' : ((ps.zip us).reverse.map (·.1)).Nodup := by
    rw [List.map_reverse, List.map_fst_zip (by lia)]
    exact List.pairwise_reverse.mpr (nd.imp fun h => h.symm)
  have m : (x, u) ∈ (ps.zip us).reverse := List.mem_reverse.mpr (List.mem_of_getElem? (i := i) (by rw [List.getElem?_zip_eq_some]; exact ⟨hx, hu⟩))
  generalize (ps.zip us).reverse = l at nd' m
  induction l with
  | nil => cases m
  | cons p r ih =>
    rw [List.map_cons, List.nodup_cons] at nd'
    rcases List.mem_cons.mp m with e | z
    · rw [← e, List.lookup_cons, beq_self_eq_true]
    · rw [List.lookup_cons, show (x == p.1) = false from beq_eq_false_iff_ne.mpr fun y => nd'.1 (List.mem_map.mpr ⟨_, z, y⟩)]
      exact ih nd'.2 z
theorem inv_lam {h' : Heap} {tk : Nat} (S : LamScope ps (cl.map (·.1)) L.scope) (hd : A.handled = none) (e0 : Env0 P w K mg base A outer s H) (la : LamAt H f L cl vals) (r : Vals vs us) (hl : vs.length = ps.length)
    (ns : h'.Ns s.heap.objs.size (fun x => (ps.zip us).reverse.lookup x)) (kp : ∀ b o, s.heap.get? b = some o → h'.get? b = some o) :
    Inv (cxLam CX P w K mg base (ps ++ cl.map (·.1)) L cl f c A outer s H E) [] ((vs ++ vals).map some) (strip cl H) { s with heap := h', toks := tk } := by
  have fz := la.fz
  have ndA := List.nodup_append.mp S.nd
  have ul : us.length = ps.length := by rw [← r.length]; exact hl
  have mem_cl : ∀ {x : Str} {a : Addr}, cl.lookup x = some a → (x, a) ∈ cl := fun h => PySem.mem_of_lookup h
  have cellOf : ∀ {x : Str} {a : Addr}, (x, a) ∈ cl → ∃ (i : Nat) (v : V) (o : Obj) (u : Value), cl[i]? = some (x, a) ∧ vals[i]? = some v ∧ H a = some (FZ o) ∧ o.data = .cell (some u) ∧ RelV v u ∧ s.heap.get? a = some o := fun {x a} m => by
    obtain ⟨i, il, e⟩ := List.mem_iff_getElem.mp m
    have e' : cl[i]? = some (x, a) := by rw [List.getElem?_eq_getElem il, e]
    have iv : i < vals.length := by rw [← la.len]; exact il
    obtain ⟨o, u, q1, q2, q3⟩ := la.cell i x a vals[i] e' (List.getElem?_eq_getElem iv)
    exact ⟨i, _, o, u, e', List.getElem?_eq_getElem iv, q1, q2, q3, (e0.hok a _ q1).1⟩
  refine ⟨⟨e0.mod, S.kind, rfl, rfl, Nat.le_refl _, fun y z a h1 h2 => ?_, fun y hy => ?_, fun y a q => (by cases q), fun _ => hd, Around.frames_deeper e0.frames, .inr ⟨rfl, rfl⟩, fun b z => (List.not_mem_nil z).elim, fun b o e => ⟨(e0.bs b o e).1, ?_⟩, e0.bsz, fun b _ _ => List.not_mem_nil, fun b z => (List.not_mem_nil z).elim, e0.funs, fun b hb => ?_⟩,
    rfl, e0.bare, Un.kept kp, ⟨_, ns, fun i y v h1 h2 h3 => ?_⟩, fun y a h => ?_, ?_, fun y a h => strip_in (List.mem_map.mpr ⟨_, mem_cl h, rfl⟩), fun p hp => (List.not_mem_nil hp).elim, (hok_strip e0.hok fz).kept kp, ?_⟩
  · -- one cell, one name
    have m1 := mem_cl h1
    have m2 := mem_cl h2
    obtain ⟨i, il, ei⟩ := List.mem_iff_getElem.mp m1
    obtain ⟨j, jl, ej⟩ := List.mem_iff_getElem.mp m2
    have : i = j := (List.getElem_inj (h₀ := by rw [List.length_map]; exact il) (h₁ := by rw [List.length_map]; exact jl) la.nd2).mp (by rw [List.getElem_map, List.getElem_map, ei, ej])
    subst this
    rw [ei] at ej
    exact congrArg Prod.fst ej
  · have hy : L.scope.names.lookup y = some .cell ∨ L.scope.names.lookup y = some .free := hy
    rcases hy with q | q
    · exact absurd rfl (S.noc _ (PySem.mem_of_lookup q))
    · obtain ⟨p, hp, e⟩ := List.mem_map.mp (S.all y q)
      obtain ⟨i, il, ei⟩ := List.mem_iff_getElem.mp hp
      exact ⟨p.2, look_at la.nd1 (i := i) (by rw [List.getElem?_eq_getElem il, ei, ← e])⟩
  · show strip cl H b = none
    unfold strip
    split
    · rfl
    · exact (e0.bs b o e).2
  · show strip cl H b = none
    unfold strip
    split
    · rfl
    · exact e0.frf b hb
  · have h2' : (vs ++ vals)[i]? = some v := by
      rw [List.getElem?_map] at h2
      cases e : (vs ++ vals)[i]? with
      | none => rw [e] at h2; cases h2
      | some z => rw [e] at h2; cases h2; rfl
    replace h1 : (ps ++ cl.map (·.1))[i]? = some y := h1
    by_cases ci : i < vs.length
    · rw [List.getElem?_append_left ci] at h2'
      rw [List.getElem?_append_left (by lia)] at h1
      obtain ⟨u, hu, rv⟩ := r.get h2'
      exact ⟨u, rv, .inl ⟨S.par y (List.mem_of_getElem? h1), rev_lookup ndA.1 ul h1 hu⟩⟩
    · rw [List.getElem?_append_right (by lia)] at h2'
      rw [List.getElem?_append_right (by lia), List.getElem?_map, ← hl] at h1
      obtain ⟨⟨x, a⟩, e1, rfl⟩ := Option.map_eq_some_iff.mp h1
      obtain ⟨o, u, q1, q2, q3⟩ := la.cell _ x a v e1 h2'
      exact ⟨u, q3, .inr ⟨.inr (S.fre x (List.mem_map.mpr ⟨_, List.mem_of_getElem? e1, rfl⟩)), a, look_at la.nd1 e1, o, kp _ _ (e0.hok a _ q1).1, q2⟩⟩
  · obtain ⟨i, v, o, u, _, _, _, q2, _, q4⟩ := cellOf (mem_cl h)
    exact ⟨some u, o, kp _ _ q4, q2⟩
  · show strip cl H s.heap.objs.size = none
    unfold strip
    split
    · rfl
    · exact e0.hok.fresh (Nat.le_refl _)
  · show ((vs ++ vals).map some).length = (ps ++ cl.map (·.1)).length
    rw [List.length_map, List.length_append, List.length_append, List.length_map, hl, la.len]
theorem lam_run {k : Nat} (S : LamScope ps (cl.map (·.1)) L.scope) (hr : Room (k + 1) A) (e0 : Env0 P w K mg base A outer s H) (la : LamAt H f L cl vals) (r : Vals vs us) (hl : vs.length = ps.length)
    (hb : ∀ pm cdv ct, bindArgs (PySem.W.kla_fn "<lambda>" L.qual L.params L.body L.scope cl pm cdv ct) ⟨us, []⟩ = pure (ps.zip us))
    (hbody : ∀ c, Room k (A.deeper (envL L cl s.heap.objs.size f c)) → ∃ t, PE (cxLam CX P w K mg base (ps ++ cl.map (·.1)) L cl f c A outer s H E) L.body t ∧ t ((vs ++ vals).map some) (strip cl H) fun v H1 => Q v (back cl H H1)) :
    codeAny (model P w) A (.call (.ref f) ⟨us, []⟩) (CR CX outer P w H s Q E) s := by
  obtain ⟨pm, c, ct, oc, fs, tc, h1, h2, h3, h4⟩ := la.ex
  have lim : s.heap.NoLimit := e0.mod.nolimit.keeps fun b o e => (e0.bs b o e).1
  have ul : us.length = ps.length := by rw [← r.length]; exact hl
  refine PySem.W.kla_callFunE hr.depth (e0.hok f _ h1).1 rfl S.co S.gen rfl ⟨c, oc, fs, tc, rfl, (e0.hok c _ h2).1, h3, h4⟩ ?_
  rw [show bindArgs _ _ = _ from hb pm (.ref c) ct]
  refine wpAny_pure (wpAny_newFunctionEnv S.noc (fun y hy => S.par y.1 (List.of_mem_zip hy).1) (fun h' ns sb => ?_) S.kind)
  have kp : ∀ b o, s.heap.get? b = some o → h'.get? b = some o := fun b o e => (sb.2 b (Nat.ne_of_lt (Heap.lt_size e))).trans (Heap.get?_push_of_some _ e)
  refine ⟨lim.keeps kp, PySem.W.kla_codeExpr ?_⟩
  obtain ⟨t, ht, hq⟩ := hbody c (hr.deeper _)
  have I := inv_lam (CX := CX) (E := E) (c := c) (tk := s.toks + (ps.zip us).length) S hr.hd e0 la r hl ns kp
  refine wpAny_mono (ht [] _ _ _ _ I hq) (fun u s' hs => ?_) fun e s' hs => hs
  obtain ⟨v, H1, J, rv, q⟩ := hs
  have fzl := la.fz
  have low : ∀ b ∈ cl.map (·.2), H1 b = none := fun b hb => by
    obtain ⟨o, z⟩ := fzl b hb
    exact J.base.free b o (e0.hok b _ z).1 (strip_in hb) List.not_mem_nil
  obtain ⟨un, ok⟩ := un_back (H' := H1) J.base fzl e0.frf (fun b o z => (e0.hok b _ z).1) low J.hok
  exact ⟨v, _, J.os, J.bare, un, ok, rv, q⟩
end
end L2
end
section
set_option maxHeartbeats 4000001
namespace L2
open PySem PySem.Spec PyProof.Rows Own
section
variable {X : Cx} {CX : CXT} {k : Nat} {L : Lam} {fr ps : List Str} {sp : List V → List V → Hp → VK → XK → Prop} {E : XK} {x : Str} {i : Nat} {p pos : Pos} {e : Expr} {es : List Expr} {t : TA}
end
end L2
end
section
set_option maxHeartbeats 4000001
namespace L2
open PySem PySem.Spec PyProof.Rows Own Ts
section
variable {X : Cx} {pins : List (Addr × Obj)} {σ : St} {H : Hp} {s : Shared}
theorem Inv.adopt {T : Addr} {o : HO} (I : Inv X pins σ H s) (hf : FpOk X pins H T) (new : ObjOk X.prog X.w (upd H T o) s.heap T o) : Inv X pins σ (upd H T o) s := by
  have hn := hf.1
  have J : Inv X pins σ (upd H T o) { s with heap := s.heap, gens := s.gens, drawn := s.drawn, toks := s.toks } := by
    refine I.step (ch := [T]) (fun b hb => ?_) (fun b u _ _ _ e _ => e) (fun b u _ _ _ e _ => ⟨u.slots, e⟩) (fun b u hc _ n => by rw [upd_ne fun q => hc (List.mem_singleton.mpr q)]; exact n)
      (fun b u _ e => ⟨u, e⟩) (fun b xs e => by rw [upd_ne (ne_of_none e hn)]; exact e) (fun b u x e => by rw [upd_ne (ne_of_none e hn)]; exact e) (fun b ps e => ⟨#[], by rw [upd_ne (ne_of_none e hn), e]; simp⟩) (fun m hm => hm) (fun b u e => ?_) I.bare
    · have only := List.mem_singleton.mp hb
      subst only
      exact ⟨hf.2.2.2.1, hf.2.1, hf.2.2.2.2.1, hf.2.2.2.2.2⟩
    · by_cases hb : b = T
      · subst hb; rw [upd_same] at e; cases e; exact new
      · rw [upd_ne hb] at e
        exact (I.hok b u e).stay (fun c v _ q => q) (fun c q => by rw [upd_ne (ne_of_none q hn)]; exact q) fun c xs q => by rw [upd_ne (ne_of_none q hn)]; exact q
  exact J
end
end L2
end
section
set_option maxHeartbeats 4000001
namespace L2
open PySem PySem.Spec PyProof.Rows Own
theorem closure_all {sc : Scope} {env : Env} (h : ∀ x, (x, NameKind.free) ∈ sc.names → ∃ c, env.cells.lookup x = some c) :
    ∃ cl, closureFor sc env = pure cl ∧ cl.map (·.1) = ((sc.names.filter fun y => y.2 == .free).map (·.1)).reverse ∧ ∀ p ∈ cl, env.cells.lookup p.1 = some p.2 := by
  unfold closureFor
  have key : ∀ (l : List (Str × NameKind)) (acc : List (Str × Addr)), (∀ x, (x, NameKind.free) ∈ l → ∃ c, env.cells.lookup x = some c) → (∀ p ∈ acc, env.cells.lookup p.1 = some p.2) →
      ∃ cl, (forIn l acc fun (y : Str × NameKind) (r : List (Str × Addr)) => (match y with | (name, kind) => if (kind == NameKind.free) = true then do let a ← cellOf env name; pure (ForInStep.yield ((name, a) :: r)) else pure (ForInStep.yield r) : Sem (ForInStep (List (Str × Addr))))) = pure cl ∧ cl.map (·.1) = ((l.filter fun y => y.2 == .free).map (·.1)).reverse ++ acc.map (·.1) ∧ ∀ p ∈ cl, env.cells.lookup p.1 = some p.2 := by
    intro l
    induction l with
    | nil => intro acc _ ha; exact ⟨acc, rfl, rfl, ha⟩
    | cons y l ih =>
      intro acc hl ha
      obtain ⟨x, kd⟩ := y
      rw [List.forIn_cons]
      by_cases c : (kd == NameKind.free) = true
      · have ek : kd = .free := by
          cases kd <;> first | rfl | cases c
        subst ek
        obtain ⟨a, ea⟩ := hl x (.head _)
        obtain ⟨cl, e1, e2, e3⟩ := ih ((x, a) :: acc) (fun z hz => hl z (.tail _ hz)) (fun p hp => by
          rcases List.mem_cons.mp hp with rfl | q
          · exact ea
          · exact ha p q)
        refine ⟨cl, ?_, ?_, e3⟩
        · have ec : cellOf env x = pure a := by unfold cellOf; rw [ea]
          simp only [ec, pure_bind]
          exact e1
        · rw [e2, List.filter_cons, if_pos (show ((x, NameKind.free).2 == NameKind.free) = true from rfl), List.map_cons (l := List.filter _ l), List.reverse_cons, List.append_assoc]; rfl
      · obtain ⟨cl, e1, e2, e3⟩ := ih acc (fun z hz => hl z (.tail _ hz)) ha
        refine ⟨cl, ?_, ?_, e3⟩
        · simp only [c, pure_bind]
          exact e1
        · rw [e2, List.filter_cons, if_neg c]
  obtain ⟨cl, e1, e2, e3⟩ := key sc.names [] h (fun p hp => (List.not_mem_nil hp).elim)
  refine ⟨cl, ?_, by rw [e2, List.map_nil, List.append_nil], e3⟩
  have e4 := congrArg (fun (m : Sem (List (Str × Addr))) => m >>= fun r => pure r) e1
  exact e4.trans (pure_bind _ _)
def TabOk (H : Hp) (qual : Str) (l : List (Pos × Addr)) : Prop := ∀ p ∈ l, ∃ (oc : Obj) (fs : Array Value) (t : Tok), H p.2 = some (FZ oc) ∧ oc.data = .fields fs ∧ fs[1]? = some (.str qual t)
theorem TabOk.frz {H H' : Hp} {qual : Str} {l : List (Pos × Addr)} (h : TabOk H qual l) (z : ∀ b o u, H b = some (.frz o u) → H' b = some (.frz o u)) : TabOk H' qual l := fun p hp => by
  obtain ⟨oc, fs, t, h1, h2⟩ := h p hp
  exact ⟨oc, fs, t, z _ _ _ h1, h2⟩
theorem among_find (pos : Pos) : ∀ l : List (Pos × Addr), codeAmong pos (triples l) = none ∨ ∃ p ∈ l, codeAmong pos (triples l) = some (.ref p.2)
  | [] => .inl rfl
  | (q, a) :: l => by
    show (if (((q.line : Int) == pos.line && (q.col : Int) == pos.col) = true) then some (Value.ref a) else codeAmong pos (triples l)) = none ∨ ∃ p ∈ (q, a) :: l, (if (((q.line : Int) == pos.line && (q.col : Int) == pos.col) = true) then some (Value.ref a) else codeAmong pos (triples l)) = some (.ref p.2)
    split
    · exact .inr ⟨_, .head _, rfl⟩
    · rcases among_find pos l with h | ⟨p, hp, h⟩
      · exact .inl h
      · exact .inr ⟨p, .tail _ hp, h⟩
theorem triples_ok : ∀ l : List (Pos × Addr), TriplesOk (triples l)
  | [] => trivial
  | (q, a) :: l => triples_ok l
structure CodeK (K : PySem.W.Frag) (mg : Str → Option Value) (base : Heap) (c P : Addr) : Prop where
  hd : PySem.W.codeHdIn K c P = true
  blt : base.BuiltinsAt mg P
  gP : mainGlobals ≠ P
structure LamRaw (H : Hp) (f : Addr) (L : Lam) (cl : List (Str × Addr)) : Prop where
  ex : ∃ (pm : Value) (c : Addr) (ct : Value) (oc : Obj) (fs : Array Value) (t : Tok), H f = some (FZ (lamO L cl pm c ct)) ∧ H c = some (FZ oc) ∧ oc.data = .fields fs ∧ fs[1]? = some (.str L.qual t)
def CellsOf (env : Env) (cl : List (Str × Addr)) : Prop := ∀ p ∈ cl, env.cells.lookup p.1 = some p.2
def tLam (env : Env) (P : Addr) (L : Lam) (fr : List Str) : TE := fun _ H Q => ∃ l, H P = some (.tbl (triples l).toArray) ∧ TabOk H L.qual l ∧
  ∀ f cl l' H', cl.map (·.1) = fr → CellsOf env cl → H f = none → LamRaw H' f L cl → H' P = some (.tbl (triples l').toArray) → TabOk H' L.qual l' → (∀ b o, H b = some o → b ≠ P → H' b = some o) → Q (.ref f) H'
section
variable {X : Cx} {pins : List (Addr × Obj)} {σ : St} {H : Hp} {s : Shared} {h' : Heap}
theorem Inv.tab {P : Addr} {ps more : Array Value} {tk : Nat} (I : Inv X pins σ H s) (hP : H P = some (.tbl ps)) (k : Heap.ExtBut P s.heap h') (new : h'.get? P = some (PySem.W.tabObj (ps ++ more))) : Inv X pins σ (upd H P (.tbl (ps ++ more))) { s with heap := h', toks := tk } := by
  have ne : ∀ {b : Addr}, H b = none → b ≠ P := fun e z => by rw [z, hP] at e; cases e
  have oth : ∀ {b : Addr} {o : HO}, H b = some o → (∀ q, o ≠ .tbl q) → upd H P (.tbl (ps ++ more)) b = some o := fun {b o} e n => by
    rw [upd_ne]; · exact e
    · intro z
      rw [z, hP] at e
      exact n ps (Option.some.inj e).symm
  refine I.step (g' := s.gens) (d' := s.drawn) (ch := []) (fun b hb => (List.not_mem_nil hb).elim) (fun b o _ _ _ e n => k b o (ne n) e) (fun b o _ _ _ e n => ⟨o.slots, k b o (ne n) e⟩) (fun b o _ e n => by rw [upd_ne (ne n)]; exact n) (fun b o _ e => ?_) (fun b xs e => oth e fun q z => by cases z) (fun b o u e => oth e fun q z => by cases z) (fun b qs e => ?_) (fun m hm => ?_) (fun b u e => ?_) I.bare
  · by_cases c : b = P
    · subst c; exact ⟨_, new⟩
    · exact ⟨o, k b o c e⟩
  · by_cases c : b = P
    · subst c
      rw [hP] at e
      cases e
      exact ⟨more, upd_same⟩
    · exact ⟨#[], by rw [upd_ne c, e]; simp⟩
  · obtain ⟨o, es, ep, ho, r⟩ := hm
    exact ⟨o, es, ep, k _ o (ne I.free) ho, r⟩
  · by_cases c : b = P
    · subst c
      rw [upd_same] at e
      cases e
      exact new
    · rw [upd_ne c] at e
      refine (I.hok b u e).stay (fun x v hx q => k x v ?_ q) (fun x q => oth q fun z y => by cases y) fun x xs q => oth q fun z y => by cases y
      rcases hx with z | z
      · rw [z]; exact c
      · rintro rfl
        rw [hP] at z; cases z
theorem pe_lam {params : Arguments} {body : Expr} {scope : Scope} {pos : Pos} {c P : Addr} {fr : List Str} (CK : CodeK X.K X.mg X.base c P) (hcode : X.env.code = .ref c) (hdef : defaultsOf params X.env = ([], [])) (hfree : ∀ x, (x, NameKind.free) ∈ scope.names → X.env.kindOf x = some .cell ∨ X.env.kindOf x = some .free) (hfr : ((scope.names.filter fun y => y.2 == .free).map (·.1)).reverse = fr) :
    PE X (.Lambda params body scope pos) (tLam X.env P ⟨params, body, scope, X.env.qual ++ "<lambda>"⟩ fr) := by
  intro pins s σ H Q I h
  obtain ⟨l, hP, tok, q⟩ := h
  obtain ⟨cl, ecl, efr, hcl⟩ := closure_all (sc := scope) (env := X.env) fun x hx => I.ok.has x (hfree x hx)
  rw [hfr] at efr
  have hg : s.heap.Ns mainGlobals X.mg := I.mod.glob.keeps I.bk
  have hb : s.heap.BuiltinsAt X.mg P := CK.blt.keeps I.bk
  have C := PySem.W.codeHd_of_K I.kIn CK.hd
  have tP : s.heap.get? P = some (PySem.W.tabObj (triples l).toArray) := I.hok P _ hP
  refine PySem.W.kla_eval hdef ?_
  rcases among_find pos l with hn | ⟨p, hp, hy⟩
  · refine PySem.W.kla_makeFunction ecl I.ok.glob hg hcode C tP (by rw [List.toList_toArray]; exact triples_ok l) (by rw [List.toList_toArray]; exact hn) CK.gP hb fun c' ctv h' tk ex lo hi cr tp => ?_
    obtain ⟨c2, oc, fs, t, ec, g1, g2, g3⟩ := cr
    cases ec
    have pl : P < s.heap.objs.size := Heap.lt_size tP
    have sz : s.heap.objs.size ≤ h'.objs.size := Nat.le_trans lo (Nat.le_of_lt hi)
    have cP : c' ≠ P := Nat.ne_of_gt (Nat.lt_of_lt_of_le pl lo)
    have fP : h'.objs.size ≠ P := Nat.ne_of_gt (Nat.lt_of_lt_of_le pl sz)
    have cf : c' ≠ h'.objs.size := Nat.ne_of_lt hi
    have e1 : (triples l).toArray ++ #[rawInt pos.line, rawInt pos.col, .ref c'] = (triples (l ++ [(pos, c')])).toArray := by
      rw [triples_append]; simp
    rw [e1] at tp
    have I1 := I.tab (tk := tk) (h' := h'.push (lamO ⟨params, body, scope, X.env.qual ++ "<lambda>"⟩ cl ((X.mg "__name__").getD .none) c' ctv)) (more := #[rawInt pos.line, rawInt pos.col, .ref c']) hP (fun b o n e => Heap.get?_push_of_some _ (ex b o n e)) (by rw [e1]; exact Heap.get?_push_of_some _ tp)
    rw [e1] at I1
    have n1 : H c' = none := I.hok.fresh lo
    have n2 : H h'.objs.size = none := I.hok.fresh sz
    have m1 : upd H P (.tbl (triples (l ++ [(pos, c')])).toArray) c' = none := by rw [upd_ne cP]; exact n1
    have I2 := I1.adopt (o := FZ oc) (I.fpOk lo m1) (fz_ok (Heap.get?_push_of_some _ g1))
    have m2 : upd (upd H P (.tbl (triples (l ++ [(pos, c')])).toArray)) c' (FZ oc) h'.objs.size = none := by rw [upd_ne cf.symm, upd_ne fP]; exact n2
    have I3 := I2.adopt (o := FZ (lamO ⟨params, body, scope, X.env.qual ++ "<lambda>"⟩ cl ((X.mg "__name__").getD .none) c' ctv)) (I.fpOk sz m2) (fz_ok (Heap.get?_push_size _ rfl))
    have keep : ∀ b o, H b = some o → b ≠ P → upd (upd (upd H P (.tbl (triples (l ++ [(pos, c')])).toArray)) c' (FZ oc)) h'.objs.size (FZ (lamO ⟨params, body, scope, X.env.qual ++ "<lambda>"⟩ cl ((X.mg "__name__").getD .none) c' ctv)) b = some o := fun b o e n => by
      rw [upd_ne (ne_of_none e n2), upd_ne (ne_of_none e n1), upd_ne n]; exact e
    refine ⟨.ref h'.objs.size, _, I3, rfl, q _ cl (l ++ [(pos, c')]) _ efr hcl n2 ⟨_, c', ctv, oc, fs, t, upd_same, by rw [upd_ne cf]; exact upd_same, g2, g3⟩ (by rw [upd_ne fP.symm, upd_ne cP.symm]; exact upd_same) (fun p hp => ?_) keep⟩
    rcases List.mem_append.mp hp with was | is
    · obtain ⟨oc', fs', t', o1, o2, o3⟩ := tok p was
      exact ⟨oc', fs', t', keep _ _ o1 (ne_of o1 hP (fun y => by cases y)), o2, o3⟩
    · rw [List.mem_singleton.mp is]
      exact ⟨oc, fs, t, by rw [upd_ne cf]; exact upd_same, g2, g3⟩
  · obtain ⟨oc, fs, t, o1, o2, o3⟩ := tok p hp
    refine PySem.W.kla_makeFunctionHit ecl I.ok.glob hg hcode C tP (by rw [List.toList_toArray]; exact triples_ok l) (by rw [List.toList_toArray]; exact hy) hb fun ctv h' tk k sz => ?_
    have kk : ∀ b o, s.heap.get? b = some o → (h'.push (lamO ⟨params, body, scope, X.env.qual ++ "<lambda>"⟩ cl ((X.mg "__name__").getD .none) p.2 ctv)).get? b = some o := fun b o e => Heap.get?_push_of_some _ (k b o e)
    have fr0 := I.hok.fresh (a := h'.objs.size) sz
    have I1 := I.laid (a := h'.objs.size) (o := FZ (lamO ⟨params, body, scope, X.env.qual ++ "<lambda>"⟩ cl ((X.mg "__name__").getD .none) p.2 ctv)) (t' := tk) kk sz (fz_ok (Heap.get?_push_size _ rfl))
    refine ⟨.ref h'.objs.size, _, I1, rfl, q _ cl l _ efr hcl fr0 ⟨_, p.2, ctv, oc, fs, t, upd_same, by rw [upd_ne (ne_of_none o1 fr0)]; exact o1, o2, o3⟩ (by rw [upd_ne (ne_of_none hP fr0)]; exact hP) (tok.frz fun b o u e => by rw [upd_ne (ne_of_none e fr0)]; exact e) fun b o e _ => by rw [upd_ne (ne_of_none e fr0)]; exact e⟩
end
end L2
end
section
set_option maxHeartbeats 4000001
namespace L2
open PySem PySem.Spec PyProof.Rows Own
def CellsAt (H : Hp) (cs : List (Str × Addr)) (vals : List V) : Prop := cs.length = vals.length ∧ ∀ (i : Nat) x c v, cs[i]? = some (x, c) → vals[i]? = some v → ∃ o u, H c = some (FZ o) ∧ o.data = .cell (some u) ∧ RelV v u
theorem CellsAt.fz {H : Hp} {cs : List (Str × Addr)} {vals : List V} (h : CellsAt H cs vals) : CellsFz cs H := fun b hb => by
  obtain ⟨⟨x, c⟩, hc, rfl⟩ := List.mem_map.mp hb
  obtain ⟨i, il, e⟩ := List.mem_iff_getElem.mp hc
  have iv : i < vals.length := by rw [← h.1]; exact il
  obtain ⟨o, u, q1, _⟩ := h.2 i x c vals[i] (by rw [List.getElem?_eq_getElem il, e]) (List.getElem?_eq_getElem iv)
  exact ⟨o, q1⟩
theorem LamRaw.at_ {H : Hp} {f : Addr} {L : Lam} {cl cs : List (Str × Addr)} {vals ws : List V} (r : LamRaw H f L cl) (h : CellsAt H cs vals) (n1 : (cl.map (·.1)).Nodup) (n2 : (cl.map (·.2)).Nodup) (len : cl.length = ws.length)
    (sub : ∀ (i : Nat) x c v, cl[i]? = some (x, c) → ws[i]? = some v → ∃ j : Nat, cs[j]? = some (x, c) ∧ vals[j]? = some v) : LamAt H f L cl ws := by
  refine ⟨r.ex, len, fun i x c v a b => ?_, n1, n2⟩
  obtain ⟨j, e1, e2⟩ := sub i x c v a b
  exact h.2 j x c v e1 e2
def tCallC (env : Env) (xs : List (Str × Nat)) (sp : Sp) (E : XK) (t : TA) : TE := fun σ H Q => t σ H fun vs H1 => ∃ vals : List V, vals.length = xs.length ∧ (∀ (j : Nat) x i v, xs[j]? = some (x, i) → vals[j]? = some v → σ[i]? = some (some v)) ∧
  ∀ cs H2, cs.map (·.1) = xs.map (·.1) → CellsOf env cs → (cs.map (·.2)).Nodup → CellsAt H2 cs vals → (∀ b, b ∉ cs.map (·.2) → H2 b = H1 b) → (∀ b ∈ cs.map (·.2), H1 b = none) → sp vs H2 (fun v H3 => Q v (strip cs H3)) E
section
variable {X : Cx} {pins : List (Addr × Obj)} {σ : St} {H : Hp} {s : Shared}
theorem Inv.cells {xs : List (Str × Nat)} {vals : List V} (I : Inv X pins σ H s) (nd : (xs.map (·.1)).Nodup) (hk : ∀ p ∈ xs, X.N[p.2]? = some p.1 ∧ X.env.scope.names.lookup p.1 = some .cell ∧ X.fn p.1 = true) (hl : vals.length = xs.length)
    (hσ : ∀ (j : Nat) x i v, xs[j]? = some (x, i) → vals[j]? = some v → σ[i]? = some (some v)) : ∃ cs : List (Str × Addr), cs.map (·.1) = xs.map (·.1) ∧ CellsOf X.env cs ∧ (cs.map (·.2)).Nodup ∧ cs.length = vals.length ∧
      ∀ (j : Nat) x c v, cs[j]? = some (x, c) → vals[j]? = some v → ∃ o u, s.heap.get? c = some o ∧ o.data = .cell (some u) ∧ RelV v u ∧ X.s₀.heap.objs.size ≤ c := by
  induction xs generalizing vals with
  | nil =>
    cases vals with
    | nil => exact ⟨[], rfl, fun p hp => (List.not_mem_nil hp).elim, List.nodup_nil, rfl, fun j x c v h => by cases h⟩
    | cons a b => cases hl
  | cons p xs ih =>
    cases vals with
    | nil => cases hl
    | cons v0 vals =>
      rw [List.map_cons, List.nodup_cons] at nd
      obtain ⟨cs, c1, c2, c3, c4, c5⟩ := ih (vals := vals) nd.2 (fun q hq => hk q (.tail _ hq)) (by simpa using hl) (fun j x i v a b => hσ (j + 1) x i v a b)
      obtain ⟨x0, i0⟩ := p
      obtain ⟨k1, k2, k3⟩ := hk (x0, i0) (.head _)
      have hv := hσ 0 x0 i0 v0 rfl rfl
      obtain ⟨m, hn, lo⟩ := I.loc
      obtain ⟨u, ru, lk⟩ := lo i0 x0 v0 k1 hv (.inr (.inl k2))
      rcases lk with ⟨kk, _⟩ | ⟨_, c, hc, o, ho, hd⟩
      · have kk' : X.env.scope.names.lookup x0 = some .local := kk
        rw [k2] at kk'; cases kk'
      refine ⟨(x0, c) :: cs, by rw [List.map_cons, List.map_cons, c1], fun q hq => ?_, ?_, by rw [List.length_cons, List.length_cons, c4], fun j x c' v a b => ?_⟩
      · rcases List.mem_cons.mp hq with rfl | z
        · exact hc
        · exact c2 q z
      · rw [List.map_cons, List.nodup_cons]
        refine ⟨fun hm => ?_, c3⟩
        obtain ⟨q, hq, e⟩ := List.mem_map.mp hm
        have := I.ok.inj q.1 x0 c (by rw [c2 q hq]; exact congrArg some e) hc
        exact nd.1 (by rw [← c1, ← this]; exact List.mem_map.mpr ⟨q, hq, rfl⟩)
      · cases j with
        | zero =>
          cases Option.some.inj a
          cases Option.some.inj b
          exact ⟨o, u, ho, hd, ru, I.ok.cab x0 c k3 hc⟩
        | succ j => exact c5 j x c' v a b
variable {CX : CXT} {k : Nat} {f : Addr} {fd : FuncData} {ps : List Str} {sp : Sp} {x : Str} {p pos : Pos} {e : Expr} {es : List Expr} {t : TA} {E : XK}
theorem pe_callC (F : FnOk X.prog X.w X.K X.mg X.base CX0 k f fd ps sp) (hr : Room k X.A) (hg : Gl X x) (hm : X.mg x = some (.ref f)) (hkp : PySem.W.keepIn X.K (.ref f) = true) (hb : Binds X.K fd ps []) (xs : List (Str × Nat)) (nd : (xs.map (·.1)).Nodup)
    (hk : ∀ p ∈ xs, X.N[p.2]? = some p.1 ∧ X.env.scope.names.lookup p.1 = some .cell ∧ X.fn p.1 = true) (ha : PA X (e :: es) t) (hdb : (x == ("__debug__" : Str)) = false := by decide) (he : starEach (e :: es) X.env = (false, eval e X.env) :: starEach es X.env := by rfl) (hpl : (backTo pos (starEach es X.env)).any (·.1) = false := by rfl) :
    PE X (.Call (.Name x p) (e :: es) [] pos) (tCallC X.env xs sp E t) := by
  intro pins s σ H Q I h
  refine wpAny_Call_Name_kw (ld_glob I hg hm ?_ hdb)
  refine PySem.W.callWith_K (h₀ := X.base) I.ok.mod.kin hkp (thn (ha pos pins s σ H _ I h) fun us s1 ⟨vs, H1, I1, r, vals, vl, hσ, q⟩ => ⟨I1.kIn, ?_⟩) he hpl
  obtain ⟨cs, c1, c2, c3, c4, c5⟩ := I1.cells nd hk vl hσ
  have cell : ∀ b ∈ cs.map (·.2), ∃ y o u, X.env.cells.lookup y = some b ∧ s1.heap.get? b = some o ∧ o.data = .cell (some u) ∧ X.s₀.heap.objs.size ≤ b := fun b hb => by
    obtain ⟨⟨y, c⟩, hc, rfl⟩ := List.mem_map.mp hb
    obtain ⟨j, jl, ej⟩ := List.mem_iff_getElem.mp hc
    have jv : j < vals.length := by rw [← c4]; exact jl
    obtain ⟨o, u, g1, g2, _, g4⟩ := c5 j y c vals[j] (by rw [List.getElem?_eq_getElem jl, ej]) (List.getElem?_eq_getElem jv)
    exact ⟨y, o, u, c2 (y, c) hc, g1, g2, g4⟩
  have free : ∀ b ∈ cs.map (·.2), H1 b = none := fun b hb => by
    obtain ⟨y, o, u, e1, _⟩ := cell b hb
    exact I1.freeC y b e1
  have nofr : ∀ b ∈ cs.map (·.2), b ∉ frs X.stack := fun b hb hf => by
    obtain ⟨y, o, u, e1, _, _, lo⟩ := cell b hb
    rcases List.mem_cons.mp (I1.stkSub b hf) with z | z
    · exact I1.cne y b e1 z
    · obtain ⟨_, o', ho, _⟩ := I1.ok.funs.mem z
      exact absurd (Nat.lt_of_lt_of_le (Heap.lt_size ho) lo) (Nat.lt_irrefl _)
  let H2 : Hp := fun b => if b ∈ cs.map (·.2) then (s1.heap.get? b).map FZ else H1 b
  have in2 : ∀ {b : Addr} {o : Obj}, b ∈ cs.map (·.2) → s1.heap.get? b = some o → H2 b = some (FZ o) := fun {b o} hb e => by
    show (if b ∈ cs.map (·.2) then (s1.heap.get? b).map FZ else H1 b) = _
    rw [if_pos hb, e]; rfl
  have out2 : ∀ b, b ∉ cs.map (·.2) → H2 b = H1 b := fun b hb => if_neg hb
  have old2 : ∀ {b : Addr} {o : HO}, H1 b = some o → H2 b = some o := fun {b o} e => by
    rw [out2 b fun hb => by rw [free b hb] at e; cases e]; exact e
  have ca : CellsAt H2 cs vals := ⟨c4, fun i y c v a b => by
    obtain ⟨o, u, g1, g2, g3, _⟩ := c5 i y c v a b
    exact ⟨o, u, in2 (List.mem_map.mpr ⟨_, List.mem_of_getElem? a, rfl⟩) g1, g2, g3⟩⟩
  have ok2 : HOk X.prog X.w H2 s1.heap := fun b u e2 => by
    by_cases hb : b ∈ cs.map (·.2)
    · obtain ⟨y, o, u', _, g1, _⟩ := cell b hb
      rw [in2 hb g1] at e2
      cases e2
      exact fz_ok g1
    · rw [out2 b hb] at e2
      exact (I1.hok b u e2).stay (fun _ _ _ z => z) (fun _ z => old2 z) fun _ _ z => old2 z
  have e0 := I1.env0
  have e2 : Env0 X.prog X.w X.K X.mg X.base X.A X.stack s1 H2 := ⟨e0.frames, e0.mod, fun b o z => ⟨(e0.bs b o z).1, ?_⟩, e0.bsz, e0.funs, fun b hb => ?_, ok2, e0.bare⟩
  rotate_left
  · rw [out2 b fun hc => ?_]; · exact (e0.bs b o z).2
    · obtain ⟨y, o', u, _, _, _, lo⟩ := cell b hc
      exact absurd (Nat.lt_of_lt_of_le (Heap.lt_size z) (Nat.le_trans I1.ok.bsz lo)) (Nat.lt_irrefl _)
  · rw [out2 b fun hc => nofr b hc hb]; exact e0.frf b hb
  have z := q cs H2 c1 c2 c3 ca out2 free
  have ul : us.length = ps.length := by rw [← r.length]; exact F.len _ _ _ _ z
  refine wpAny_call (codeAny_mono (F.run X.A X.stack s1 H2 ⟨us, []⟩ us vs _ E hr e2 (by have := hb s1 us I1.kIn (by rw [List.append_nil]; exact ul); rwa [List.append_nil] at this) r z) fun rs s' hq => ?_)
  cases rs with
  | error e => exact hq.elim
  | ok fl =>
    cases fl with
    | next => exact False.elim hq
    | brk => exact False.elim hq
    | cont => exact False.elim hq
    | ret u =>
      obtain ⟨v, H3, os, bare, un, hok, rv, qq⟩ := hq
      have fz3 : CellsFz cs H3 := fun b hb => by
        obtain ⟨o, w⟩ := ca.fz b hb
        exact ⟨o, un.frzs b o _ w⟩
      have same : ∀ b ∈ cs.map (·.2), ∀ o, s1.heap.get? b = some o → s'.heap.get? b = some o := fun b hb o e => by
        have := un.frzs b o _ (in2 hb e)
        exact (hok b _ this).1
      refine I1.after ⟨v, strip cs H3, os, bare, ⟨fun b o e n x y => ?_, fun b o e n x y => ?_, fun b o e n y => ?_, un.there, fun b ys e => ?_, fun b o w e => ?_, fun b qs e => ?_⟩, hok_strip hok fz3, rv, qq⟩
      · by_cases hb : b ∈ cs.map (·.2)
        · exact same b hb o e
        · exact un.keep b o e (by rw [out2 b hb]; exact n) x y
      · by_cases hb : b ∈ cs.map (·.2)
        · exact ⟨o.slots, same b hb o e⟩
        · exact un.slot b o e (by rw [out2 b hb]; exact n) x y
      · by_cases hb : b ∈ cs.map (·.2)
        · exact strip_in hb
        · rw [strip_out hb]; exact un.free b o e (by rw [out2 b hb]; exact n) y
      · have hb : b ∉ cs.map (·.2) := fun hb => by rw [free b hb] at e; cases e
        rw [strip_out hb]; exact un.tups b ys (old2 e)
      · have hb : b ∉ cs.map (·.2) := fun hb => by rw [free b hb] at e; cases e
        rw [strip_out hb]; exact un.frzs b o w (old2 e)
      · have hb : b ∉ cs.map (·.2) := fun hb => by rw [free b hb] at e; cases e
        rw [strip_out hb]; exact un.tbls b qs (old2 e)
end
end L2
end
section
set_option maxHeartbeats 4000001
namespace L2
open PySem PySem.Spec PyProof.Rows Own
theorem law_callT {P : Program} {w : World} {K : PySem.W.Frag} {mg mb : Str → Option Value} {CX : CXT} {k : Nat} {fa a : Addr} {fd : FuncData} {x : Str} {sp : Sp} {s₁ : Shared} {vs : List Value} {ns : List Int} (ts : List Addr)
    (KX : K.In s₁.heap) (hns : s₁.heap.Ns mainGlobals mg) (hb : s₁.heap.Ns builtinsNs mb) (hbb : ∀ x : Str, x ≠ "__name__" → mb x = bootBuiltins x) (hlim : s₁.heap.NoLimit) (hg : s₁.gens = #[])
    (ha : s₁.heap.get? a = some { cls := .type "list", data := .seq vs.toArray }) (hi : IntsAre vs ns) (hl : ns.length ≤ sizeLine) (hr : Room k callerA)
    (ht : ∀ p ∈ ts, s₁.heap.get? p = some (PySem.W.tabObj #[]) ∧ K.lookup p = none ∧ ∃ c, PySem.W.codeHdIn K c p = true)
    (hbm : ∃ bm ob, mg "__builtins__" = some (.ref bm) ∧ bm ≠ builtinsNs ∧ s₁.heap.get? bm = some ob ∧ ob.cls = .type "module" ∧ ob.dict = some builtinsNs ∧ ob.data = .plain)
    (F : ∀ base : Heap, K.In base → base.Ns mainGlobals mg → (∀ p ∈ ts, base.BuiltinsAt mg p) → FnOk P w K mg base CX k fa fd [x] sp) (hbind : ∀ (s : Shared) (u : Value), BindsTo s fd ⟨[u], []⟩ [(x, u)])
    (hsp : ∀ H : Hp, SqL K H a (ns.map V.int) → (∀ p ∈ ts, H p = some (.tbl #[])) → sp [.ref a] H (fun v _ => v = .bl true) fun _ _ _ => False)
    (hCX : ∀ H e s', CX [] H s₁ (fun _ _ _ => False) e s' → False) :
    codeAny (model P w) callerA (.call (.ref fa) ⟨[.ref a], []⟩) (fun r s' => r = .ok (.ret (.bool true)) ∧ OldK s₁.heap s'.heap ∧ s'.os = s₁.os ∧ AllBare s'.gens) s₁ := by
  have rv := vals_ints hi
  have lenV := hi.length
  have aT : a ∉ ts := fun h => by
    have := (ht a h).1
    rw [ha] at this; cases this
  have core : ∀ H : Hp, (∀ b, H b = none ∨ (b = a ∧ ∃ o xs, H b = some (.frz o (.lst xs))) ∨ (b ∈ ts ∧ H b = some (.tbl #[]))) → (∀ p ∈ ts, H p = some (.tbl #[])) → SqL K H a (ns.map V.int) → HOk P w H s₁.heap → (H a ≠ none → K.lookup a = none) →
      codeAny (model P w) callerA (.call (.ref fa) ⟨[.ref a], []⟩) (fun r s' => r = .ok (.ret (.bool true)) ∧ OldK s₁.heap s'.heap ∧ s'.os = s₁.os ∧ AllBare s'.gens) s₁ := by
    intro H hO hT hS hok hK
    have base_of : ∀ {b : Addr} {o : Obj}, s₁.heap.get? b = some o → H b = none → (hidT s₁.heap H).get? b = some o := fun e n => hidT_get e n
    have noA : ∀ {b : Addr} {o : Obj} {es : Array DictEntry} {ep : Nat}, s₁.heap.get? b = some o → o.data = .dict es ep → H b = none := fun {b o es ep} e d => by
      rcases hO b with z | ⟨z, _⟩ | ⟨z, _⟩
      · exact z
      · rw [z, ha] at e
        cases e
        cases (show Data.seq vs.toArray _ = Data.dict es ep from d)
      · rw [(ht b z).1] at e
        cases e
        cases (show Data.fields #[] = Data.dict es ep from d)
    have nsK : ∀ {b : Addr} {m : Str → Option Value}, s₁.heap.Ns b m → (hidT s₁.heap H).Ns b m := fun {b m} ⟨o, es, ep, e, d, r⟩ => ⟨o, es, ep, base_of e (noA e d), d, r⟩
    have hKb : K.In (hidT s₁.heap H) := fun b o e => base_of (KX b o e) (by
      rcases hO b with z | ⟨z, y⟩ | ⟨z, _⟩
      · exact z
      · obtain ⟨o', xs, q⟩ := y
        rw [z] at e q
        rw [hK (by rw [q]; simp)] at e; cases e
      · rw [(ht b z).2.1] at e; cases e)
    have hM : Mod K mg (hidT s₁.heap H) := ⟨hKb, nsK hns, ⟨mb, nsK hb, hbb⟩, let ⟨mc, h1, h2⟩ := hlim; ⟨mc, nsK h1, h2⟩⟩
    have e0 : Env0 P w K mg (hidT s₁.heap H) callerA [] s₁ H := ⟨rfl, hM, fun b o e => of_hidT e, Nat.le_of_eq (hidT_size _ _), trivial, fun b hb => absurd (show b ∈ ([] : List Addr) from hb) (by simp), hok, .of_eq hg⟩
    have hB : ∀ p ∈ ts, (hidT s₁.heap H).BuiltinsAt mg p := fun p hp => by
      obtain ⟨bm, ob, b1, b2, b3, b4, b5, b6⟩ := hbm
      refine ⟨bm, ob, b1, b2, fun z => ?_, fun z => ?_, base_of b3 ?_, b4, b5, b6⟩
      · obtain ⟨og, es, ep, e, d, _⟩ := hns
        rw [← z, b3] at e
        rw [← Option.some.inj e, b6] at d; cases d
      · have e := (ht p hp).1
        rw [← z, b3] at e
        rw [Option.some.inj e] at b6; cases b6
      · rcases hO bm with z | ⟨z, _⟩ | ⟨z, _⟩
        · exact z
        · rw [z, ha] at b3
          rw [← Option.some.inj b3] at b6; cases b6
        · rw [(ht bm z).1] at b3
          rw [← Option.some.inj b3] at b6; cases b6
    refine codeAny_mono ((F _ hKb (nsK hns) hB).run callerA [] s₁ H ⟨[.ref a], []⟩ [.ref a] [.ref a] _ _ hr e0 (hbind s₁ (.ref a)) (.cons rfl .nil) (hsp H hS hT)) fun r s' h => ?_
    cases r with
    | error e => exact (hCX H e s' h).elim
    | ok fl =>
      cases fl with
      | next => exact False.elim h
      | brk => exact False.elim h
      | cont => exact False.elim h
      | ret u =>
        obtain ⟨v, H', os, bare, un, hok', r', q⟩ := h
        have q' : v = .bl true := q
        subst q'
        obtain rfl : u = Value.bool true := r'
        have kept : ∀ b o, s₁.heap.get? b = some o → b ∉ ts → s'.heap.get? b = some o := fun b o e nb => by
          rcases hO b with z | ⟨_, ob, xs, z⟩ | ⟨z, _⟩
          · exact un.keep b o e z (fun y => absurd (show b ∈ ([] : List Addr) from y) (by simp)) (by simp)
          · have z2 := un.frzs b ob _ z
            obtain ⟨e1, _⟩ := hok b _ z
            obtain ⟨e2, _⟩ := hok' b _ z2
            rw [e] at e1; cases e1
            exact e2
          · exact absurd z nb
        have tabs : ∀ b ∈ ts, ∃ more, s'.heap.get? b = some (PySem.W.tabObj (#[] ++ more)) := fun b hb => by
          obtain ⟨more, z⟩ := un.tbls b _ (hT b hb)
          exact ⟨more, hok' b _ z⟩
        refine ⟨rfl, ⟨fun b o e => ?_, fun b o e => un.there b o e (by simp)⟩, os, bare⟩
        by_cases hb : b ∈ ts
        · obtain ⟨t1, _, c, t3⟩ := ht b hb
          rw [t1] at e
          cases e
          obtain ⟨o2, ws, _, _, _, _, _, _, _, g1, g2, g3, g4, _⟩ := PySem.W.codeHd_of_K KX t3
          obtain ⟨more, z⟩ := tabs b hb
          exact .inr (.inl ⟨⟨c, o2, ws, g1, g2, g3, g4⟩, rfl, #[], more, rfl, z⟩)
        · exact .inl (kept b o e hb)
  have tab : ∀ {H : Hp} {p : Addr}, p ∈ ts → ObjOk P w H s₁.heap p (.tbl #[]) := fun hp => (ht _ hp).1
  cases hk : K.lookup a with
  | some o =>
    have e := KX a o hk
    rw [ha] at e
    cases e
    refine core (fun b => if b ∈ ts then some (.tbl #[]) else none) (fun b => ?_) (fun p hp => if_pos hp) (.inr ⟨_, vs.toArray, _, hk, rfl, rfl, rfl, by rw [List.size_toArray, lenV]; exact hl, by simpa using rv⟩) (fun b u z => ?_) fun z => absurd (if_neg aT) z
    · by_cases hb : b ∈ ts
      · exact .inr (.inr ⟨hb, if_pos hb⟩)
      · exact .inl (if_neg hb)
    · by_cases hb : b ∈ ts
      · have z' := (if_pos hb).symm.trans z
        cases z'
        exact tab hb
      · have z' := (if_neg hb).symm.trans z
        cases z'
  | none =>
    refine core (fun b => if b ∈ ts then some (.tbl #[]) else if b = a then some (.frz { cls := .type "list", data := .seq vs.toArray } (.lst (ns.map V.int))) else none) (fun b => ?_) (fun p hp => if_pos hp) (.inl (.inr ⟨{ cls := .type "list", data := .seq vs.toArray }, (if_neg aT).trans (if_pos rfl)⟩)) (fun b u z => ?_) fun _ => hk
    · by_cases hb : b ∈ ts
      · exact .inr (.inr ⟨hb, if_pos hb⟩)
      · by_cases ba : b = a
        · exact .inr (.inl ⟨ba, _, _, (if_neg hb).trans (if_pos ba)⟩)
        · exact .inl ((if_neg hb).trans (if_neg ba))
    · by_cases hb : b ∈ ts
      · have z' := (if_pos hb).symm.trans z
        cases z'
        exact tab hb
      · by_cases ba : b = a
        · have z' := ((if_neg hb).trans (if_pos ba)).symm.trans z
          cases z'
          subst ba
          exact ⟨ha, by rw [List.length_map]; exact hl, vs, _, rv, ha⟩
        · have z' := ((if_neg hb).trans (if_neg ba)).symm.trans z
          cases z'
theorem walk_ofT {l : PySem.W.OpenLaw} {n k : Nat} {q : Program} {loose : List Str} {XP : (Str → Option Value) → Heap → Prop} {YP : World → Heap → Prop} {d : DefRec} {K : Params → PySem.W.Frag} {CX : CXT} {sp : PySem.W.Frag → Sp} {x : Str} (ts : List Addr)
    (hn : l.most = some n) (hn2 : n ≤ sizeLine) (hdf : d.params.defaults = []) (hr : Room k callerA)
    (hY : ∀ (w : World) (h : Heap), YP w h → (K w.params).In h ∧ ∀ p ∈ ts, h.get? p = some (PySem.W.tabObj #[]))
    (F : ∀ (w : World) (mg : Str → Option Value) (fa : Addr) (h : Heap), (K w.params).In h → h.Ns mainGlobals mg → mg d.name = some (.ref fa) → (∀ p ∈ ts, (K w.params).lookup p = none ∧ ∃ c, PySem.W.codeHdIn (K w.params) c p = true) ∧
      ∃ fd : FuncData, (∀ (s : Shared) (u : Value), BindsTo s fd ⟨[u], []⟩ [(x, u)]) ∧
        ∀ base : Heap, (K w.params).In base → base.Ns mainGlobals mg → (∀ p ∈ ts, base.BuiltinsAt mg p) → FnOk l.prog w (K w.params) mg base CX k fa fd [x] (sp (K w.params)))
    (hsp : ∀ (K : PySem.W.Frag) (H : Hp) (a : Addr) (ns : List Int), ns.length ≤ n → SqL K H a (ns.map V.int) → (∀ p ∈ ts, H p = some (.tbl #[])) → sp K [.ref a] H (fun v _ => v = .bl true) fun _ _ _ => False)
    (hCX : ∀ (H : Hp) (s : Shared) (e : Value) (s' : Shared), CX [] H s (fun _ _ _ => False) e s' → False) :
    PySem.W.WalkO q loose XP YP l.row.toRowW d [] (fun f vs => PySem.call f vs) := by
  refine Att.attach_call hn hdf fun w s₀ s₁ mg mb fa o pm cd doc a vs ns G Y ho hd hcd hmg hobj hints hlen hg => ?_
  obtain ⟨KX, tb⟩ := hY w _ Y
  obtain ⟨tk, fd, hb, hF⟩ := F w mg fa _ KX G.T.g hmg
  exact law_callT ts KX G.T.g G.T.b G.T.builtins G.T.nolimit hg hobj hints (Nat.le_trans hlen hn2) hr (fun p hp => ⟨tb p hp, (tk p hp).1, (tk p hp).2⟩) G.T.bmain hF hb (fun H hS hT => hsp (K w.params) H a ns hlen hS hT) fun H e s' => hCX H s₁ e s'
structure FunC (K : PySem.W.Frag) (x qual : Str) (st : Stmt) (f : Addr) (fd : FuncData) (c : Addr) : Prop where
  ex : ∃ (oc : Value) (od : Option Addr) (kV doc pm : Value) (an : Option Addr) (ct : Value) (osl : Array (Option Value)),
    fd = PySem.W.fnOf x qual (defArgs st) (defBody st) (defScope st) .none kV doc pm an (.ref c) ct ∧ K.lookup f = some ⟨oc, od, .func fd, osl⟩ ∧ PySem.W.codeIn K (.ref c) qual = true
  kp : PySem.W.keepIn K (.ref f) = true
theorem FunC.ok {P : Program} {w : World} {K : PySem.W.Frag} {mg : Str → Option Value} {base : Heap} {x qual : Str} {st : Stmt} {f c : Addr} {fd : FuncData} {N ps : List Str} {k : Nat} {sp : Sp} (F : FunC K x qual st f fd c) (S : FnScope N ps (defScope st)) (len : ∀ vs H Q E, sp vs H Q E → vs.length = ps.length)
    (hbody : ∀ (A : Around) (outer : List Env) (s : Shared) (H : Hp) (vs : List V) (Q : VK) (E : XK), Room k (A.deeper (envOfC qual (defScope st) s.heap.objs.size f (.ref c))) → sp vs H Q E →
      ∃ t, PSs (cxOf CX0 P w K mg base N qual (defScope st) f (.ref c) A outer s H E).nox (defBody st) t ∧ t { nx := fun _ H' => Q .non H', rt := Q } (start N vs) H) : FnOk P w K mg base CX0 (k + 1) f fd ps sp := by
  obtain ⟨oc, od, kV, doc, pm, an, ct, osl, rfl, lk, hcd⟩ := F.ex
  refine fn_of lk hcd S len fun A outer s H vs Q E hr hsp => ?_
  obtain ⟨t, h, q⟩ := hbody A outer s H vs Q E hr hsp
  exact ⟨t, h.nox, q⟩
end L2
end
section
set_option maxHeartbeats 4000001
namespace L2
open PySem PySem.Spec PyProof.Rows Own
def lowX (cl : List (Str × Addr)) (H : Hp) (E : XK) : XK := fun cls dx H1 => (∀ b ∈ cl.map (·.2), H1 b = none) → E cls dx (back cl H H1)
section
variable {P : Program} {w : World} {K : PySem.W.Frag} {mg : Str → Option Value} {base : Heap} {N : List Str} {L : Lam} {cl : List (Str × Addr)} {f c : Addr} {A : Around} {outer : List Env} {s : Shared} {H : Hp} {E : XK}
theorem pass1L (fz : CellsFz cl H) (nf : ∀ b ∈ frs outer, H b = none) (there : ∀ b o, H b = some (FZ o) → s.heap.get? b = some o) : Passes (CX1 P w) (cxLam (CX1 P w) P w K mg base N L cl f c A outer s H E) (lowX cl H E) := by
  rintro pins σ H1 s1 e s2 I ⟨ea, T0, cls, dx, H2, rfl, os, bare, un, hok, fl, ⟨n1, n2⟩, ⟨f1, f2⟩, hE⟩
  have J : Inv (cxLam (CX1 P w) P w K mg base N L cl f c A outer s H E) pins σ H2 s2 := I.call' os un hok bare fun b z => absurd z (by simp)
  have hn := gone_back un I.base n1
  have hnT := gone_back un I.base n2
  show wpAny _ _ (leaving _ _) _ _ _
  unfold leaving
  refine wpAny_bind (note_fly (B := base) J.ok.frames J.stack rfl fl fun h' T st lT fl2 => ?_)
  refine land fl2 fun h2 st2 fl3 => ?_
  have old : ∀ {b : Addr}, s2.heap.objs.size ≤ b → s.heap.get? b = none := fun {b} lb => by
    cases q : s.heap.get? b with
    | none => rfl
    | some o => exact absurd (Nat.lt_of_lt_of_le (Heap.lt_size q) (Nat.le_trans J.sz lb)) (Nat.lt_irrefl _)
  have z1 : ∀ b, (b = ea ∨ b = T0) → s.heap.get? b = none := by
    rintro b (q | q)
    · rw [q]; exact hn
    · rw [q]; exact hnT
  have z2 : ∀ b, b = T → s.heap.get? b = none := fun b q => by rw [q]; exact old lT
  have fr : ∀ b o, s.heap.get? b = some o → b ∈ frs (envL L cl s.heap.objs.size f c :: outer) → b ∈ frs outer := fun b o q hb => by
    rcases List.mem_cons.mp (show b ∈ s.heap.objs.size :: frs outer from hb) with z | z
    · rw [z] at q; exact absurd (Heap.lt_size q) (Nat.lt_irrefl _)
    · exact z
  have un2 : Un (frs outer) [] (strip cl H) H2 s.heap h2 := ((show Un (frs outer) [] (strip cl H) H2 s.heap s2.heap from J.base).stp st z1 fr).stp st2 z2 (fun _ _ _ z => nomatch z)
  have ok2 : HOk P w H2 h2 := by
    refine HOk.stp (HOk.stp (P := P) (w := w) J.hok st (fun b q => ?_) fun b hb => J.stkFree b hb) st2 (fun b q => by rw [q]; exact J.hok.fresh lT) fun _ z => nomatch z
    rcases q with q | q
    · rw [q]; exact f1
    · rw [q]; exact f2
  have low : ∀ b ∈ cl.map (·.2), H2 b = none := fun b hb => by
    obtain ⟨o, z⟩ := fz b hb
    exact J.base.free b o (there b o z) (strip_in hb) List.not_mem_nil
  obtain ⟨un3, ok3⟩ := un_back (P := P) (w := w) un2 fz nf there low ok2
  have nin : ∀ {b : Addr}, s.heap.get? b = none → b ∉ cl.map (·.2) := fun e hb => by
    obtain ⟨o, z⟩ := fz _ hb
    rw [there _ o z] at e; cases e
  exact ⟨ea, T, _, _, back cl H H2, rfl, J.os, J.bare, un3, ok3, fl3, ⟨hn, z2 T rfl⟩, ⟨by rw [back_out (nin hn)]; exact f1, by rw [back_out (nin (z2 T rfl))]; exact J.hok.fresh lT⟩, hE low⟩
end
structure LamX (P : Program) (w : World) (K : PySem.W.Frag) (mg : Str → Option Value) (base : Heap) (k : Nat) (L : Lam) (fr ps : List Str) (sp : List V → List V → Hp → VK → XK → Prop) : Prop where
  S : LamScope ps fr L.scope
  len : ∀ vals vs H Q E, sp vals vs H Q E → vs.length = ps.length
  bind : ∀ (cl : List (Str × Addr)) (us : List Value), us.length = ps.length → ∀ pm cdv ct, bindArgs (PySem.W.kla_fn "<lambda>" L.qual L.params L.body L.scope cl pm cdv ct) ⟨us, []⟩ = pure (ps.zip us)
  body : ∀ (cl : List (Str × Addr)) (f c : Addr) (A : Around) (outer : List Env) (s : Shared) (H : Hp) (vals vs : List V) (Q : VK) (E : XK), cl.map (·.1) = fr → Room k (A.deeper (envL L cl s.heap.objs.size f c)) → CellsFz cl H → (∀ b ∈ frs outer, H b = none) → (∀ b o, H b = some (FZ o) → s.heap.get? b = some o) → sp vals vs (strip cl H) (fun v H1 => Q v (back cl H H1)) (lowX cl H E) →
    ∃ t, PE (cxLam (CX1 P w) P w K mg base (ps ++ fr) L cl f c A outer s H E) L.body t ∧ t ((vs ++ vals).map some) (strip cl H) fun v H1 => Q v (back cl H H1)
section
variable {X : Cx} {k : Nat} {Lc : Addr} {L : Lam} {fr ps : List Str} {sp : List V → List V → Hp → VK → XK → Prop} {x cn n : Str} {p cpos epos np hpos pos : Pos} {e : Expr} {es : List Expr} {t : TA} {i j : Nat} {b0 : Stmt} {suite : List Stmt} {ts : TS} {rest : List ExceptHandler}
theorem callXL {pins : List (Addr × Obj)} {s : Shared} {σ : St} {H : Hp} {Q : VK} {E : XK} (F : LamX X.prog X.w X.K X.mg X.base k L fr ps sp) (hr : Room (k + 1) X.A) (hN : PE X (.Name x p) (tVar j)) (hx : ∀ e s, X.xe e s → False) (ha : PA X (e :: es) t)
    (he : starEach (e :: es) X.env = (false, eval e X.env) :: starEach es X.env) (hpl : (backTo pos (starEach es X.env)).any (·.1) = false)
    (I : Inv X pins σ H s) (h : ∃ f, σ[j]? = some (some (.ref f)) ∧ (∃ cl pm c ct, H f = some (FZ (lamO L cl pm c ct))) ∧ t σ H fun vs H1 => ∃ cl vals, cl.map (·.1) = fr ∧ LamAt H1 f L cl vals ∧ sp vals vs (strip cl H1) (fun v H2 => Q v (back cl H1 H2)) (lowX cl H1 E)) :
    wpAny (model X.prog X.w) X.A (eval (.Call (.Name x p) (e :: es) [] pos) X.env) (EP X pins σ Q) (fun ev s' => ∃ H1 s1, Inv X pins σ H1 s1 ∧ CX1 X.prog X.w X.stack H1 s1 E ev s') s := by
  obtain ⟨f, hf, ⟨cl0, pm0, c0, ct0, hf0⟩, q⟩ := h
  refine wpAny_Call_Name_kw (wpAny_mono (hN pins s σ H (fun v H' => v = .ref f ∧ H' = H) I ⟨_, hf, rfl, rfl⟩) (fun g s0 ⟨v, H0, I0, rv, ev, eh⟩ => ?_) fun ev s1 z => (hx ev s1 z).elim)
  subst ev eh
  obtain rfl : g = .ref f := rv
  refine PySem.W.callWith_F ⟨_, _, _, _, (I0.hok f _ hf0).1⟩ ?_ he hpl
  refine wpAny_mono (ha pos pins s0 σ H0 _ I0 q) (fun us s1 ⟨vs, H1, I1, r, cl, vals, ec, la, z⟩ => ?_) fun ev s1 z => (hx ev s1 z).elim
  obtain ⟨pm, c, ct, oc, fs, tc, h1, h2, h3, h4⟩ := la.ex
  have hl := F.len _ _ _ _ _ z
  have ul : us.length = ps.length := by rw [← r.length]; exact hl
  have S' : LamScope ps (cl.map (·.1)) L.scope := by rw [ec]; exact F.S
  refine ⟨⟨_, _, _, _, (I1.hok f _ h1).1⟩, ?_⟩
  refine wpAny_call (codeAny_mono (lam_run (CX := CX1 X.prog X.w) (E := E) (Q := Q) S' hr I1.env0 la r hl (F.bind cl us ul) fun c' hr' => ?_) fun rs s' hq => ?_)
  · obtain ⟨t', ht, hq⟩ := F.body cl f c' X.A X.stack s1 H1 vals vs Q E ec hr' la.fz I1.env0.frf (fun b o y => (I1.hok b _ y).1) z
    exact ⟨t', by rw [ec]; exact ht, hq⟩
  · cases rs with
    | error ev => exact ⟨H1, s1, I1, hq⟩
    | ok fl =>
      cases fl with
      | ret u => exact I1.after hq
      | next => exact hq.elim
      | brk => exact hq.elim
      | cont => exact hq.elim
def tTryL (K : PySem.W.Frag) (L : Lam) (fr : List Str) (i j : Nat) (Lc : Addr) (sp : List V → List V → Hp → VK → XK → Prop) (t : TA) (ts : TS) : TS := fun D σ H => ∃ f, σ[j]? = some (some (.ref f)) ∧ (∃ cl pm c ct, H f = some (FZ (lamO L cl pm c ct))) ∧ t σ H fun vs H1 => ∃ cl vals, cl.map (·.1) = fr ∧ LamAt H1 f L cl vals ∧ sp vals vs (strip cl H1) (fun _ H2 => D.nx σ (back cl H1 H2)) (lowX cl H1 fun cls dx H2 => tCatch K i Lc ts D σ cls dx H2)
theorem ps_tryL (W : AtTry X) (F : LamX X.prog X.w X.K X.mg X.base k L fr ps sp) (hr : Room (k + 1) X.A) (hNm : PE X (.Name x p) (tVar j)) (ha : PA X (e :: es) t)
    (C : XAt X cn Lc) (hN : X.N.Nodup) (hi : X.N[i]? = some n) (hl : X.env.scope.names.lookup n = some .local) (hs : ∀ e, PSs (X.held e).nox (b0 :: suite) ts)
    (he : starEach (e :: es) X.env = (false, eval e X.env) :: starEach es X.env := by rfl) (hpl : (backTo cpos (starEach es X.env)).any (·.1) = false := by rfl)
    (hw : swapsWith (.Call (.Name x p) (e :: es) [] cpos) none epos.line X.env = pure false := by rfl) :
    PS X (.Try [.Expr (.Call (.Name x p) (e :: es) [] cpos) epos] (.ExceptHandler (some (.Name cn np)) (some n) (b0 :: suite) hpos :: rest) [] [] pos) (tTryL X.K L fr i j Lc sp t ts) := by
  intro pins s σ H D I h
  refine PySem.wpAny_Try_except (wpAny_execs_cons (wpAny_Expr_any (wpAny_mono (callXL F hr hNm W.nox ha he hpl I h) (fun v s1 q => ?_) fun ev s2 q => ?_) I.quiet hw))
  · obtain ⟨y, H1, I1, r1, q1⟩ := q
    exact wpAny_execs_nil (wpAny_execs_nil ⟨σ, H1, I1, q1⟩)
  · obtain ⟨H1, s1, I1, q1⟩ := q
    exact caught I1 q1 W.st C.gl C.mg C.db hN hi hl hs
end
end L2
end
section
set_option maxHeartbeats 4000001
namespace K26
open PySem L2 Own Bn
abbrev LSp := List V → List V → Hp → VK → XK → Prop
def spLStart (K : PySem.W.Frag) (C CD : Addr) : LSp := fun vals vs H Q E => ∃ (A : Tad) (x : V), vals = [.ref A.t] ∧ vs = [x] ∧ spTStartX K C CD [.ref A.t, x] H Q E
def spLStep (K : PySem.W.Frag) (C CD : Addr) : LSp := fun vals vs H Q E => ∃ (A : Tad) (x : V), vals = [.ref A.t] ∧ vs = [x] ∧ spTStepX K C CD [.ref A.t, x] H Q E
def firstLam (q : Str) : Stmt → Lam
  | .If (.UnaryOp _ (.Call _ (.Lambda p b s _ :: _) _ _) _) _ _ _ => ⟨p, b, s, q⟩
  | _ => ⟨⟨[], [], none, [], [], none, []⟩, .Name "" ⟨0, 0, 0, 0⟩, defScope (top 25), q⟩
def inFor : Stmt → List Stmt
  | .For _ _ b _ _ => b
  | _ => []
def nth (l : List Stmt) (i : Nat) : Stmt := l.getD i (.Pass ⟨0, 0, 0, 0⟩)
def lamS (q : Str) : Lam := firstLam q (nth (inFor (nth (inFor (nth (inFor (nth (defBody (top 25)) 1)) 2)) 3)) 0)
def lamT (q : Str) : Lam := firstLam q (nth (inFor (nth (inFor (nth (inFor (nth (defBody (top 25)) 1)) 2)) 5)) 0)
theorem one_of {us : List Value} (h : us.length = 1) : ∃ u, us = [u] := by
  cases us with
  | nil => cases h
  | cons u r =>
    cases r with
    | nil => exact ⟨u, rfl⟩
    | cons a b => cases h
theorem look_in {l : List (Str × NameKind)} {x : Str} {k : NameKind} (h : l.lookup x = some k) : (x, k) ∈ l := by
  obtain ⟨a, c, e, _⟩ := List.lookup_eq_some_iff.mp h
  rw [e]
  exact List.mem_append.mpr (.inr (.head _))
theorem scLS : LamScope ["_law_one"] ["_law_teller"] (lamS "").scope := ⟨rfl, rfl, rfl, by decide +kernel, by decide +kernel, by decide +kernel, by decide +kernel, fun x hx => (show ∀ y ∈ (lamS "").scope.names, y.2 = .free → y.1 ∈ [("_law_teller" : Str)] from by decide +kernel) _ (look_in hx) rfl⟩
theorem scLT : LamScope ["_law_one"] ["_law_teller"] (lamT "").scope := ⟨rfl, rfl, rfl, by decide +kernel, by decide +kernel, by decide +kernel, by decide +kernel, fun x hx => (show ∀ y ∈ (lamT "").scope.names, y.2 = .free → y.1 ∈ [("_law_teller" : Str)] from by decide +kernel) _ (look_in hx) rfl⟩
section
variable {P : Program} {w : World} {K : PySem.W.Frag} {mg : Str → Option Value} {base : Heap} {C : Addr}
theorem lam_start (q : Str) {f CD : Addr} {fd : FuncData} (T : Txt K mg C) (ok : FnOk P w K mg base (CX1 P w) 3 f fd ["self", "lane"] (spTStartX K C CD)) (b : Binds K fd ["self", "lane"] []) (mt : Meth K C "start" f) : LamX P w K mg base 3 (lamS q) ["_law_teller"] ["_law_one"] (spLStart K C CD) := by
  refine ⟨scLS, fun vals vs H Q E h => ?_, fun cl us hl pm cdv ct => by obtain ⟨u, rfl⟩ := one_of hl; rfl, fun cl f' c A outer s H vals vs Q E ec hr fz nf there h => ?_⟩
  · obtain ⟨A, x, _, rfl, _⟩ := h
    rfl
  obtain ⟨A', x, rfl, rfl, h⟩ := h
  refine ⟨_, pe_meth (pv 1) T.cl mt ok hr b .nil (pass1L fz nf there) (pa_cons (pv 0) pa_nil), ?_⟩
  obtain ⟨A2, N, S, y, e, te, z⟩ := h
  obtain ⟨dx, ob⟩ := te.ob
  have e2 := List.cons.inj e
  have ea : A'.t = A2.t := V.ref.inj e2.1
  exact ⟨_, rfl, A'.t, dx, _, rfl, by rw [ea]; exact ob, rfl, _, rfl, A2, N, S, y, e, te, z⟩
theorem lam_step (q : Str) {f CD : Addr} {fd : FuncData} (T : Txt K mg C) (ok : FnOk P w K mg base (CX1 P w) 3 f fd ["self", "ball"] (spTStepX K C CD)) (b : Binds K fd ["self", "ball"] []) (mt : Meth K C "step" f) : LamX P w K mg base 3 (lamT q) ["_law_teller"] ["_law_one"] (spLStep K C CD) := by
  refine ⟨scLT, fun vals vs H Q E h => ?_, fun cl us hl pm cdv ct => by obtain ⟨u, rfl⟩ := one_of hl; rfl, fun cl f' c A outer s H vals vs Q E ec hr fz nf there h => ?_⟩
  · obtain ⟨A, x, _, rfl, _⟩ := h
    rfl
  obtain ⟨A', x, rfl, rfl, h⟩ := h
  refine ⟨_, pe_meth (pv 1) T.cl mt ok hr b .nil (pass1L fz nf there) (pa_cons (pv 0) pa_nil), ?_⟩
  obtain ⟨A2, N, S, y, e, te, z⟩ := h
  obtain ⟨dx, ob⟩ := te.ob
  have e2 := List.cons.inj e
  have ea : A'.t = A2.t := V.ref.inj e2.1
  exact ⟨_, rfl, A'.t, dx, _, rfl, by rw [ea]; exact ob, rfl, _, rfl, A2, N, S, y, e, te, z⟩
end
end K26
end
section
set_option maxHeartbeats 4000001
namespace L2
open PySem
section
variable {X : Cx} {K : PySem.W.Frag} {a o : Expr} {ta : TE} {f : Str} {pos : Pos}
end
section
variable {K : PySem.W.Frag} {C D : Addr} {cd : ClassData} {b : Bool}
theorem kit_same (h : (Value.ref C == Value.ref C) = true) : PySem.W.kitOne K (.ref C) (.ref C) = some true := if_pos h
theorem kitCls_own (c : PySem.W.clsIn K D = some cd) (t : PySem.W.typeIn K (.ref D) = some (.type "type")) (s : PySem.W.mroIn K C (.ref D) = some b) : PySem.W.kitCls K (.ref C) (.ref D) = some b := by
  simp only [PySem.W.kitCls, c, t]
  exact (if_pos rfl).trans s
theorem kit_other (h : (Value.ref C == Value.ref D) = false) (c : PySem.W.clsIn K D = some cd) (t : PySem.W.typeIn K (.ref D) = some (.type "type")) (s : PySem.W.mroIn K C (.ref D) = some b) : PySem.W.kitOne K (.ref C) (.ref D) = some b := by
  unfold PySem.W.kitOne
  rw [h]
  exact kitCls_own c t s
theorem exm_own (z : PySem.W.mroIn K D (.type "BaseException") = some true) (c : PySem.W.clsIn K D = some cd) (t : PySem.W.typeIn K (.ref D) = some (.type "type")) (s : PySem.W.mroIn K C (.ref D) = some b) : PySem.W.exmOne K (.ref C) (.ref D) = some b := by
  unfold PySem.W.exmOne
  rw [show PySem.W.subIn K (.ref D) (.type "BaseException") = some true from z]
  exact (if_pos rfl).trans (kitCls_own c t s)
theorem nsOk_of {N : Addr} {o : Obj} (l : K.lookup N = some o) (h : PySem.W.nsOkIn [(N, o)] N = true) : PySem.W.nsOkIn K N = true := by
  have e : K.lookup N = List.lookup N [(N, o)] := by rw [l]; simp [List.lookup]
  unfold PySem.W.nsOkIn at h ⊢
  rw [e]
  exact h
theorem tail_own (c : PySem.W.clsIn K D = some cd) (o : PySem.W.nsOkIn K cd.ns = true) (i : PySem.W.nsIn K cd.ns "__init__" = some none) : PySem.W.tailIn K bmV (.ref D :: bmV) = true := by
  obtain ⟨x, y, z, l⟩ := cls_at c
  have t : PySem.W.tailIn K bmV bmV = true := rfl
  rw [PySem.W.tailIn, l]
  dsimp only
  rw [o, i, t]
  exact Bool.or_true _
end
end L2
end
section
set_option maxHeartbeats 4000001
namespace L2
open PySem
section
variable {K : PySem.W.Frag} {C : Addr} {b : Bool} {t c : Value} {cs : List Value} {T : String}
theorem kit_ty (h : (Value.ref C == Value.type T) = false) (m : PySem.W.kitMeta T = true) (s : PySem.W.mroIn K C (.type T) = some b) : PySem.W.kitOne K (.ref C) (.type T) = some b := by
  unfold PySem.W.kitOne
  rw [h]
  simp only [PySem.W.kitCls, m]
  exact s
theorem kitAny_no (h : PySem.W.kitOne K t c = some false) (r : PySem.W.kitAny K t cs = some false) : PySem.W.kitAny K t (c :: cs) = some false := by
  rw [PySem.W.kitAny, h]
  exact r
end
end L2
namespace Bn
open PySem
structure MgV (mg : Str → Option Value) : Prop where
  ve : mg "ValueError" = none
end Bn
end
section
set_option maxHeartbeats 4000001
namespace K26
open PySem L2 Own Bn
abbrev sRef : Stmt := top 23
def spRefused (CD : Addr) (L : Lam) (sp : LSp) : Sp := fun vs H Q _ => ∃ f x cl vals, vs = [.ref f, x] ∧ cl.map (·.1) = [("_law_teller" : Str)] ∧ LamAt H f L cl vals ∧
  (∀ Q' E, (∀ dx, strip cl H dx = none → E (.ref CD) (some dx) (L2.upd (strip cl H) dx (.xd [("place", .int 0)]))) → sp vals [x] (strip cl H) Q' E) ∧ ∀ H', Same H H' → Q (.bl true) H'
theorem back_upd {cl : List (Str × Addr)} {H : Hp} {dx : Addr} {o : HO} (n : dx ∉ cl.map (·.2)) : back cl H (L2.upd (strip cl H) dx o) = L2.upd H dx o := by
  funext b
  by_cases c : b ∈ cl.map (·.2)
  · rw [back_in c, upd_ne (fun (z : b = dx) => n (z ▸ c))]
  · rw [back_out c]
    by_cases d : b = dx
    · rw [d, upd_same, upd_same]
    · rw [upd_ne d, upd_ne d, strip_out c]
section
variable {P : Program} {w : World} {K : PySem.W.Frag} {mg : Str → Option Value} {base : Heap}
theorem scRf : FnScope ["_law_deed", "_law_thing", "_law_caught", "e"] ["_law_deed", "_law_thing"] (defScope sRef) := ⟨rfl, rfl, rfl, by decide +kernel, rfl, by decide +kernel, by decide +kernel⟩
theorem ok_refused {f CD CG CN CT CE L : Addr} {fd : FuncData} {lam : Lam} {sp : LSp} (F : Fun K "_law_refused" "_law_refused" sRef f fd) (G : Mgs mg) (LX : LamX P w K mg base 3 lam ["_law_teller"] ["_law_one"] sp) (mL : mg "LaneError" = some (.ref L)) (mV : mg "ValueError" = none) (mD : mg "NoDeed" = some (.ref CD)) (mG : mg "NoGroup" = some (.ref CG)) (mN : mg "NoLine" = some (.ref CN)) (mT : mg "NoText" = some (.ref CT)) (mE : mg "NotEven" = some (.ref CE))
    (Z : XIs K CD) (xm : PySem.W.exmOne K (.ref CD) (.ref L) = some true) (kv : PySem.W.kitOne K (.ref CD) (.type "ValueError") = some true) (ka : PySem.W.kitAny K (.ref CD) [.ref CG, .ref CN, .ref CT, .ref CE] = some false) (kt : PySem.W.kitOne K (.ref CD) (.ref CD) = some true) (na : PySem.W.findIn K (.ref CD) "place" = some none) : FnOk P w K mg base CX0 5 f fd ["_law_deed", "_law_thing"] (spRefused CD lam sp) := by
  refine F.ok scRf (fun vs H Q E h => ?_) (fun cdv A outer s H vs Q E hr h => ?_)
  · obtain ⟨g, x, cl, vals, rfl, _⟩ := h
    rfl
  obtain ⟨g, x, cl, vals, rfl, ec, la, hsp, k⟩ := h
  refine ⟨_, (@pss_cons _ _ _ _ _ (@ps_set _ _ 2 _ _ _ _ scRf.nd rfl (Or.inl rfl) pe_non (by rfl) (by first | exact .inl rfl | exact .inr rfl | assumption)) (@pss_cons _ _ _ _ _ (ps_tryL (i := 3) (Lc := L) ⟨⟨rfl, rfl, rfl⟩, fun _ _ z => z⟩ LX hr (@pv _ 0 _ _ (by rfl) (by first | exact Or.inl rfl | exact Or.inr (Or.inl rfl) | exact Or.inr (Or.inr rfl)) (by decide) (by decide)) (@pa_cons _ _ _ _ _ (@pv _ 1 _ _ (by rfl) (by first | exact Or.inl rfl | exact Or.inr (Or.inl rfl) | exact Or.inr (Or.inr rfl)) (by decide) (by decide)) pa_nil (by rfl)) ⟨rfl, mL, rfl⟩ scRf.nd rfl rfl (fun e => @pss_one _ _ _ (@ps_set _ _ 2 _ _ _ _ scRf.nd rfl (Or.inl rfl) (@pv _ 3 _ _ (by rfl) (by first | exact Or.inl rfl | exact Or.inr (Or.inl rfl) | exact Or.inr (Or.inr rfl)) (by decide) (by decide)) (by rfl) (by first | exact .inl rfl | exact .inr rfl | assumption)))) (@pss_cons _ _ _ _ _ (@ps_if _ _ _ _ _ _ _ _ (PW.pt (@pw_or _ _ _ _ _ _ _ (@pt_not _ _ _ _ (@pt_truth _ _ _ (@pe_callB _ _ _ _ _ _ _ _ _ call_isiX (by rfl) G.isi (by rfl) (@pa_cons _ _ _ _ _ (@pv _ 2 _ _ (by rfl) (by first | exact Or.inl rfl | exact Or.inr (Or.inl rfl) | exact Or.inr (Or.inr rfl)) (by decide) (by decide)) (@pa_cons _ _ _ _ _ (@pe_bltn _ _ (.ty "ValueError") _ _ (by rfl) mV (by rfl) (by rfl) (by decide) (by decide)) pa_nil (by rfl)) (by rfl)) (by decide) (by decide) (by rfl) (by rfl)) (fun _ => rfl))) (@pw_or1 _ _ _ _ (@pt_truth _ _ _ (@pe_callB _ _ _ _ _ _ _ _ _ call_isiX (by rfl) G.isi (by rfl) (@pa_cons _ _ _ _ _ (@pv _ 2 _ _ (by rfl) (by first | exact Or.inl rfl | exact Or.inr (Or.inl rfl) | exact Or.inr (Or.inr rfl)) (by decide) (by decide)) (@pa_cons _ _ _ _ _ (@pe_tup _ _ _ _ _ (@pa_cons _ _ _ _ _ (@pe_glob _ _ (.ref CG) _ _ (by rfl) mG (by rfl) (by decide)) (@pa_cons _ _ _ _ _ (@pe_glob _ _ (.ref CN) _ _ (by rfl) mN (by rfl) (by decide)) (@pa_cons _ _ _ _ _ (@pe_glob _ _ (.ref CT) _ _ (by rfl) mT (by rfl) (by decide)) (@pa_cons _ _ _ _ _ (@pe_glob _ _ (.ref CE) _ _ (by rfl) mE (by rfl) (by decide)) pa_nil (by rfl)) (by rfl)) (by rfl)) (by rfl))) pa_nil (by rfl)) (by rfl)) (by decide) (by decide) (by rfl) (by rfl)) (fun _ => rfl))))) (@pss_one _ _ _ (@ps_ret _ _ _ _ pe_bl)) pss_nil) (@pss_one _ _ _ (@ps_ret _ _ _ _ (@pe_and _ _ _ _ _ _ _ (@pe_callB _ _ _ _ _ _ _ _ _ call_isiX (by rfl) G.isi (by rfl) (@pa_cons _ _ _ _ _ (@pv _ 2 _ _ (by rfl) (by first | exact Or.inl rfl | exact Or.inr (Or.inl rfl) | exact Or.inr (Or.inr rfl)) (by decide) (by decide)) (@pa_cons _ _ _ _ _ (@pe_glob _ _ (.ref CD) _ _ (by rfl) mD (by rfl) (by decide)) pa_nil (by rfl)) (by rfl)) (by decide) (by decide) (by rfl) (by rfl)) (@pe_one _ _ _ _ _ (@pe_cmpR _ _ _ _ _ _ _ _ op_eq (pe_xfld (@pv _ 2 _ _ (by rfl) (by first | exact Or.inl rfl | exact Or.inr (Or.inl rfl) | exact Or.inr (Or.inr rfl)) (by decide) (by decide))) pe_int (nomark _))))))))), ?_⟩
  obtain ⟨pm, c, ct, oc, fs, t, h1, _⟩ := la.ex
  refine ⟨g, rfl, ⟨_, _, _, _, h1⟩, _, rfl, cl, vals, ec, la, hsp _ _ fun dx hd low => ?_⟩
  have nd : dx ∉ cl.map (·.2) := fun z => by
    have q := low dx z
    rw [upd_same] at q; cases q
  rw [strip_out nd] at hd
  rw [back_upd nd]
  refine ⟨CD, rfl, xm, fun e he => ?_⟩
  have s2 := same_new hd (.xd [("place", .int 0)])
  have s3 := same_new he (excO e CD (some dx))
  have ed := s3 _ _ (upd_same (H := H) (a := dx) (o := .xd [("place", .int 0)]))
  refine ⟨_, rfl, ?_⟩
  refine ⟨_, rfl, e, CD, dx, _, _, true, rfl, Z, upd_same, ed, .inl ⟨"ValueError", rfl, kv⟩, true, rfl, iteF ?_⟩
  refine ⟨_, rfl, by show 4 ≤ sizeLine; decide, fun tp ht => ?_⟩
  have s4 := same_new ht (.tup [.ref CG, .ref CN, .ref CT, .ref CE])
  have ee := s4 _ _ (upd_same (H := L2.upd H dx (.xd [("place", .int 0)])) (a := e) (o := excO e CD (some dx)))
  have ed' := s4 _ _ ed
  refine ⟨e, CD, dx, _, _, false, rfl, Z, ee, ed', .inr (.inr ⟨tp, [CG, CN, CT, CE], rfl, upd_same, ka⟩), false, rfl, iteF ?_⟩
  refine ⟨_, rfl, e, CD, dx, _, _, true, rfl, Z, ee, ed', .inr (.inl ⟨CD, rfl, kt⟩), true, rfl, iteT ?_⟩
  refine ⟨_, rfl, e, CD, dx, _, _, rfl, Z, ee, ed', na, rfl, rfl, by rw [decide_eq_true rfl]; exact k _ ((s2.trans s3).trans s4)⟩
end
end K26
end
section
set_option maxHeartbeats 4000001
namespace K26
open PySem L2 Own Bn
abbrev sLaw : Stmt := top 25
def qL : Str := ("law" : Str) ++ (".<locals>." : Str) ++ ("<lambda>" : Str)
def Tab (H : Hp) (Pt : Addr) : Prop := ∃ l, H Pt = some (.tbl (triples l).toArray) ∧ TabOk H qL l
theorem ButM.frz {L : List Addr} {H H' : Hp} (h : ButM L H H') (m : ∀ x ∈ L, Mut H x) : ∀ b o u, H b = some (.frz o u) → H' b = some (.frz o u) := fun b o u e => h b _ e fun z => by
  obtain ⟨o, h1, h2⟩ := m b z
  rw [e] at h1
  rcases h2 with ⟨ys, rfl⟩ | ⟨ys, rfl⟩ | ⟨ys, rfl⟩ <;> cases h1
theorem Tab.butM {L : List Addr} {H H' : Hp} {Pt : Addr} (t : Tab H Pt) (h : ButM L H H') (m : ∀ x ∈ L, Mut H x) (n : Pt ∉ L) : Tab H' Pt := by
  obtain ⟨l, h1, h2⟩ := t
  exact ⟨l, h _ _ h1 n, h2.frz (h.frz m)⟩
theorem Tab.keep {H H' : Hp} {Pt : Addr} (t : Tab H Pt) (s : Same H H') : Tab H' Pt := t.butM (L := []) (ButM.same s) (fun x hx => (List.not_mem_nil hx).elim) List.not_mem_nil
theorem Tab.mut {H : Hp} {Pt : Addr} (t : Tab H Pt) : ∀ x ∈ [Pt], Mut H x := fun x hx => by
  obtain ⟨l, h1, _⟩ := t
  rw [List.mem_singleton.mp hx]
  exact ⟨_, h1, .inr (.inr ⟨_, rfl⟩)⟩
theorem Tab.ne {H : Hp} {Pt a : Addr} {xs : List V} (t : Tab H Pt) (h : H a = some (.lst xs)) : Pt ≠ a := fun z => by
  obtain ⟨l, h1, _⟩ := t
  rw [z, h] at h1; cases h1
theorem free_one {sc : Scope} {x0 : Str} {env : Env} (h : (sc.names.filter fun y => y.2 == .free) = [(x0, .free)]) (k : env.kindOf x0 = some .cell) : ∀ x, (x, NameKind.free) ∈ sc.names → env.kindOf x = some .cell ∨ env.kindOf x = some .free := fun x hx => by
  have z : (x, NameKind.free) ∈ sc.names.filter fun y => y.2 == .free := List.mem_filter.mpr ⟨hx, rfl⟩
  rw [h] at z
  obtain ⟨e, _⟩ := Prod.mk.inj (List.mem_singleton.mp z)
  exact .inl (e ▸ k)
theorem hk_one {X : Cx} {x : Str} {i : Nat} (h1 : X.N[i]? = some x) (h2 : X.env.scope.names.lookup x = some .cell) (h3 : X.fn x = true) : ∀ p ∈ [(x, i)], X.N[p.2]? = some p.1 ∧ X.env.scope.names.lookup p.1 = some .cell ∧ X.fn p.1 = true := fun p hp => by
  rw [List.mem_singleton.mp hp]
  exact ⟨h1, h2, h3⟩
theorem mem_mine {A : Tad} {B : KAd} {p : Addr → Prop} (a1 : p A.ls) (a2 : p A.lp) (a3 : p A.lc) (a4 : p A.ln) (b1 : p B.d) (b2 : p B.db) (b3 : p B.lo) (b4 : p B.lg) (b5 : p B.lt) : ∀ x ∈ mineA A ++ mineB B, p x := fun x hx => by
  unfold mineA mineB at hx
  simp only [List.mem_append, List.mem_cons, List.mem_nil_iff, or_false] at hx
  rcases hx with (rfl | rfl | rfl | rfl) | rfl | rfl | rfl | rfl | rfl <;> assumption
theorem none_back {H H' : Hp} {x : Addr} (s : Same H H') (h : H' x = none) : H x = none := by
  cases e : H x with
  | none => rfl
  | some o => rw [s _ _ e] at h; cases h
theorem few0 (N : Nt) : Few (S0 N) 0 := ⟨Nat.le_refl _, Nat.le_refl _, fun x hx => by rw [List.eq_of_mem_replicate hx]; exact Nat.le_refl _⟩
structure OddAt3 (H : Hp) (a1 a2 a3 : Addr) : Prop where
  h1 : H a1 = some (.tup [.int 0])
  h2 : H a2 = some (.lst [.int 0])
  h3 : H a3 = some (.dK [])
def odds (a1 a2 a3 : Addr) : List V := [.non, .bl true, .bl false, .str "0", .ref a1, .ref a2, .ref a3, .int (-1), .int (10 ^ 20)]
structure Mine (H : Hp) (l2 lo a1 a2 a3 fm : Addr) (S : Tst) : Prop where
  h2 : H l2 = some (.lst (nums (wayL S.spots)))
  ho : H lo = some (.lst (odds a1 a2 a3))
  od : OddAt3 H a1 a2 a3
  to : ToldIs H fm S
section
variable {H H' : Hp} {l2 lo a1 a2 a3 fm Pt : Addr} {S : Tst} {L : List Addr}
theorem Mine.butM (M : Mine H l2 lo a1 a2 a3 fm S) (b : ButM L H H') (m : ∀ x ∈ L, Mut H x) (n1 : l2 ∉ L) (n2 : lo ∉ L) (n3 : a2 ∉ L) (n4 : a3 ∉ L) : Mine H' l2 lo a1 a2 a3 fm S :=
  ⟨b _ _ M.h2 n1, b _ _ M.ho n2, ⟨b.tups m _ _ M.od.h1, b _ _ M.od.h2 n3, b _ _ M.od.h3 n4⟩, M.to.keep (b.tups m)⟩
theorem Mine.keep (M : Mine H l2 lo a1 a2 a3 fm S) (s : Same H H') : Mine H' l2 lo a1 a2 a3 fm S := M.butM (L := []) (ButM.same s) (fun x hx => (List.not_mem_nil hx).elim) List.not_mem_nil List.not_mem_nil List.not_mem_nil List.not_mem_nil
theorem Tab.no (t : Tab H Pt) {a : Addr} {o : HO} (h : H a = some o) (n : ∀ q, o ≠ .tbl q) : a ∉ [Pt] := fun z => by
  obtain ⟨l, h1, _⟩ := t
  rw [← List.mem_singleton.mp z, h] at h1
  exact n _ (Option.some.inj h1)
theorem Mine.tab (M : Mine H l2 lo a1 a2 a3 fm S) (t : Tab H Pt) (b : ButM [Pt] H H') : Mine H' l2 lo a1 a2 a3 fm S :=
  M.butM b t.mut (t.no M.h2 fun q z => by cases z) (t.no M.ho fun q z => by cases z) (t.no M.od.h2 fun q z => by cases z) (t.no M.od.h3 fun q z => by cases z)
theorem Mine.take {l : Addr} {n : Nat} (M : Mine H l2 lo a1 a2 a3 fm S) (b : But l H H') (st : StAt H l n) (n1 : l2 ≠ l) (n2 : lo ≠ l) (n3 : a2 ≠ l) : Mine H' l2 lo a1 a2 a3 fm S :=
  M.butM (ButM.one b) st.mut (fun z => n1 (List.mem_singleton.mp z)) (fun z => n2 (List.mem_singleton.mp z)) (fun z => n3 (List.mem_singleton.mp z)) fun z => by
    obtain ⟨x, y, w, h, _⟩ := st.ex
    have e := M.od.h3
    rw [List.mem_singleton.mp z, h] at e; cases e
end
theorem inV_nums (x : Nat) (a : List Nat) : inV (.int (x : Nat)) (nums a) = decide (x ∈ a) := by
  rw [Bool.eq_iff_iff, decide_eq_true_iff]
  unfold inV nums
  rw [List.any_map, List.any_eq_true]
  constructor
  · rintro ⟨y, hy, e⟩
    have z : ((y : Nat) : Int) = (x : Nat) := by simpa [eqV] using e
    have : y = x := by lia
    exact this ▸ hy
  · intro h
    exact ⟨x, h, by simp [eqV]⟩
theorem cut_mem {xs : List V} {lo hi : Option Int} {x : V} (h : x ∈ cutV xs lo hi) : x ∈ xs := by
  unfold cutV at h
  exact List.mem_of_mem_drop (List.mem_of_mem_take h)
theorem one_cell {cs : List (Str × Addr)} {x : Str} (h : cs.map (·.1) = [x]) : ∃ c, cs = [(x, c)] := by
  match cs, h with
  | [(y, c)], h => exact ⟨c, by rw [show y = x from (List.cons.inj h).1]⟩
theorem refuse {env : Env} {L : Lam} {sp : LSp} {CD Pt t : Addr} {x : V} {σ : St} {H : Hp} {Q : VK} (eq : L.qual = qL) (tab : Tab H Pt) (e4 : σ[4]? = some (some (.ref t))) (e10 : σ[10]? = some (some x)) (hsp : ∀ H1 Q' E, ButM [Pt] H H1 → (∀ dx, H1 dx = none → E (.ref CD) (some dx) (L2.upd H1 dx (.xd [("place", .int 0)]))) → sp [.ref t] [x] H1 Q' E)
    (q : ∀ H', Tab H' Pt → ButM [Pt] H H' → Q (.bl true) H') : tCallC env [("_law_teller", 4)] (spRefused CD L sp) E0 (tCons (tLam env Pt L ["_law_teller"]) (tCons (tVar 10) tNil)) σ H Q := by
  obtain ⟨l, hP, tk⟩ := tab
  refine ⟨l, hP, eq ▸ tk, fun f cl l' H1 ec co hf raw hP1 tk1 kp => ⟨x, e10, [.ref t], rfl, fun j y i v a b => ?_, fun cs H2 ecs cos ndc ca out no => ?_⟩⟩
  · match j, a, b with
    | 0, a, b => cases a; cases b; exact e4
  have b1 : ButM [Pt] H H1 := fun b o e n => kp b o e fun z => n (z ▸ .head _)
  obtain ⟨c1, rfl⟩ := one_cell ec
  obtain ⟨c2, rfl⟩ := one_cell (x := "_law_teller") ecs
  have e12 : c1 = c2 := by
    have h1 := co (("_law_teller" : Str), c1) (.head _)
    have h2 := cos (("_law_teller" : Str), c2) (.head _)
    exact Option.some.inj (h1.symm.trans h2)
  subst e12
  have es : strip [(("_law_teller" : Str), c1)] H2 = H1 := by
    funext b
    by_cases z : b ∈ [(("_law_teller" : Str), c1)].map (·.2)
    · rw [strip_in z, no b z]
    · rw [strip_out z, out b z]
  have up : ∀ {b : Addr} {o : HO}, H1 b = some o → H2 b = some o := fun {b o} e => by
    rw [out b fun z => by rw [no b z] at e; cases e]; exact e
  have la : LamAt H2 f L [(("_law_teller" : Str), c1)] [.ref t] := by
    obtain ⟨pm, c, ct, oc, fs, tt, h1, h2, h3, h4⟩ := raw.ex
    exact LamRaw.at_ ⟨pm, c, ct, oc, fs, tt, up h1, up h2, h3, h4⟩ ca (by simp) (by simp) rfl fun i y c v a b => ⟨i, a, b⟩
  refine ⟨f, x, _, _, rfl, rfl, la, fun Q' E hE => ?_, fun H3 s3 => ?_⟩
  · rw [es] at hE ⊢
    exact hsp H1 Q' E b1 hE
  · have s4 : Same H1 (strip [(("_law_teller" : Str), c1)] H3) := fun b o e => by
      rw [strip_out fun z => by rw [no b z] at e; cases e]
      exact s3 _ _ (up e)
    exact q _ (Tab.keep ⟨l', hP1, eq ▸ tk1⟩ s4) (b1.trans (ButM.same s4))
theorem refuse_if {env : Env} {L L' : Lam} {sp : LSp} {CD Pt t : Addr} {x : V} {σ : St} {H : Hp} {D : Ends} {ta tb : TS} (el : L' = L) (eq : L.qual = qL) (tab : Tab H Pt) (e4 : (σ.set 10 (some x))[4]? = some (some (.ref t))) (e10 : (σ.set 10 (some x))[10]? = some (some x)) (hsp : ∀ H1 Q' E, ButM [Pt] H H1 → (∀ dx, H1 dx = none → E (.ref CD) (some dx) (L2.upd H1 dx (.xd [("place", .int 0)]))) → sp [.ref t] [x] H1 Q' E)
    (q : ∀ H', Tab H' Pt → ButM [Pt] H H' → tb D (σ.set 10 (some x)) H') : gName 10 x σ H fun σ2 H2 => tIfS (tNot (tB (tCallC env [("_law_teller", 4)] (spRefused CD L sp) E0 (tCons (tLam env Pt L' ["_law_teller"]) (tCons (tVar 10) tNil))))) ta tb D σ2 H2 := by
  subst el
  exact refuse (Q := fun v H1 => ∃ c, v = .bl c ∧ (if (!c) = true then ta D (σ.set 10 (some x)) H1 else tb D (σ.set 10 (some x)) H1)) eq tab e4 e10 hsp fun H' t b => ⟨true, rfl, iteF (q H' t b)⟩
def spLaw (K : PySem.W.Frag) (Pt : Addr) : Sp := fun vs H Q _ => ∃ (a : Addr) (ns : List Int), vs = [.ref a] ∧ SqL K H a (ns.map V.int) ∧ ns.length ≤ 63 ∧ H Pt = some (.tbl #[]) ∧ ∀ H', Q (.bl true) H'
section
variable {P : Program} {w : World} {K : PySem.W.Frag} {mg : Str → Option Value} {base : Heap} {C : Addr}
theorem odds_ok {H : Hp} {a1 a2 a3 : Addr} (o : OddAt3 H a1 a2 a3) {b : Nat} (hb : b ≤ 1000) : ∀ x ∈ odds a1 a2 a3, AnyT K H x ∧ belowV (b : Nat) x = false := fun x hx => by
  unfold odds at hx
  simp only [List.mem_cons, List.mem_nil_iff, or_false] at hx
  rcases hx with rfl | rfl | rfl | rfl | rfl | rfl | rfl | rfl | rfl
  · exact ⟨⟨_, .non, _, rfl⟩, rfl⟩
  · exact ⟨⟨_, .bl _, _, rfl⟩, rfl⟩
  · exact ⟨⟨_, .bl _, _, rfl⟩, rfl⟩
  · exact ⟨⟨_, .str _, _, rfl⟩, rfl⟩
  · exact ⟨⟨_, .tup o.h1, _, rfl⟩, rfl⟩
  · exact ⟨⟨_, .lst o.h2, _, rfl⟩, rfl⟩
  · exact ⟨⟨_, .dK o.h3, _, rfl⟩, rfl⟩
  · exact ⟨any_int _, by show (decide ((0 : Int) ≤ -1) && decide ((-1 : Int) < (b : Nat))) = false; rfl⟩
  · exact ⟨any_int _, by show (decide ((0 : Int) ≤ 10 ^ 20) && decide ((10 ^ 20 : Int) < (b : Nat))) = false; rw [show decide ((10 ^ 20 : Int) < (b : Nat)) = false from decide_eq_false (by lia), Bool.and_false]⟩
theorem scW : FnScope ["_law_script", "_law_state", "_law_turn", "_law_net_here", "_law_teller", "_law_kept", "_law_deed", "_law_there", "_law_odd", "_law_former", "_law_thing", "_law_gone", "_law_lane", "_law_ball", "_law_due"] ["_law_script"] (defScope sLaw) := ⟨rfl, rfl, rfl, by decide +kernel, rfl, by decide +kernel, by decide +kernel⟩
theorem ok_law {f c Pt CD fH fK fN fI fB fL fS fT fM fR fA fP : Addr} {fd dH dK dN dI dB dL dS dT dM dR dA dP : FuncData} (F : FunC K "law" "law" sLaw f fd c) (CK : CodeK K mg base c Pt) (G : Mgs mg) (T : Txt K mg C) (MT : Mk K C fI) (UH : Use P w K mg base "_law_hand" ["_law_script"] 1 (spHand K) fH dH) (UK : Use P w K mg base "_law_take" ["_law_state", "_law_many"] 1 (spTake K) fK dK) (UN : Use P w K mg base "_law_net" ["_law_state", "_law_lanes_most", "_law_forks_most"] 2 spNet fN dN)
    (UI : UseM P w K mg base C "__init__" ["self", "net"] 1 (spTInit C) fI dI) (UB : Use P w K mg base "_law_begun" ["_law_net_here"] 1 spKBegun fB dB) (UL : Use P w K mg base "_law_told" ["_law_teller"] 2 (spTold C) fL dL)
    (US : Use P w K mg base "_law_same" ["_law_found", "_law_due"] 2 (spSame 1) fS dS) (UT : Use P w K mg base "_law_start" ["_law_kept", "_law_lane"] 1 spKStart fT dT) (UM : Use P w K mg base "_law_step" ["_law_net_here", "_law_kept", "_law_ball"] 1 spKStep fM dM)
    (okS : ∀ q, FnOk P w K mg base CX0 5 fR dR ["_law_deed", "_law_thing"] (spRefused CD (lamS q) (spLStart K C CD))) (okT : ∀ q, FnOk P w K mg base CX0 5 fR dR ["_law_deed", "_law_thing"] (spRefused CD (lamT q) (spLStep K C CD))) (bR : Binds K dR ["_law_deed", "_law_thing"] []) (kR : PySem.W.keepIn K (.ref fR) = true) (mR : mg "_law_refused" = some (.ref fR))
    (UA : UseM P w K mg base C "start" ["self", "lane"] 3 (spTStart C) fA dA) (UP : UseM P w K mg base C "step" ["self", "ball"] 3 (spTStep C) fP dP) : FnOk P w K mg base CX0 6 f fd ["_law_script"] (spLaw K Pt) := by
  refine F.ok scW (fun vs H Q E h => ?_) (fun A outer s H vs Q E hr h => ?_)
  · obtain ⟨a, ns, rfl, _⟩ := h
    rfl
  obtain ⟨a, ns, rfl, hS, h63, hP, k⟩ := h
  have hr1 : Room 1 _ := hr.mono (by decide)
  have hr2 : Room 2 _ := hr.mono (by decide)
  have hr3 : Room 3 _ := hr.mono (by decide)
  have tab : Tab H Pt := ⟨[], hP, fun p hp => (List.not_mem_nil hp).elim⟩
  refine ⟨_, (@pss_cons _ _ _ _ _ (@ps_set _ _ 1 _ _ _ _ scW.nd rfl (Or.inl rfl) (@pe_call _ _ _ _ _ _ _ _ _ _ _ _ _ _ _ _ UH.ok hr1 (by rfl) UH.m UH.kp UH.b .nil pass0 (@pa_cons _ _ _ _ _ (@pv _ 0 _ _ (by rfl) (by first | exact Or.inl rfl | exact Or.inr (Or.inl rfl) | exact Or.inr (Or.inr rfl)) (by decide) (by decide)) pa_nil (by rfl)) (by decide) (by rfl) (by rfl)) (by rfl) (by first | exact .inl rfl | exact .inr rfl | assumption)) (@pss_cons _ _ _ _ _ (@ps_for _ _ _ _ _ _ _ _ PassesOwn.never rfl (@pi_range1 _ _ _ _ _ _ rfl G.range (@pa_cons _ _ _ _ _ pe_int pa_nil (by rfl)) (by rfl)) (@pg_name _ _ 2 _ scW.nd rfl (Or.inl rfl) (by first | exact .inl rfl | exact .inr rfl | assumption)) (@pss_cons _ _ _ _ _ (@ps_set _ _ 3 _ _ _ _ scW.nd rfl (Or.inl rfl) (@pe_call _ _ _ _ _ _ _ _ _ _ _ _ _ _ _ _ UN.ok hr2 (by rfl) UN.m UN.kp UN.b .nil pass0 (@pa_cons _ _ _ _ _ (@pv _ 1 _ _ (by rfl) (by first | exact Or.inl rfl | exact Or.inr (Or.inl rfl) | exact Or.inr (Or.inr rfl)) (by decide) (by decide)) (@pa_cons _ _ _ _ _ pe_int (@pa_cons _ _ _ _ _ pe_int pa_nil (by rfl)) (by rfl)) (by rfl)) (by decide) (by rfl) (by rfl)) (by rfl) (by first | exact .inl rfl | exact .inr rfl | assumption)) (@pss_cons _ _ _ _ _ (@ps_asg _ _ _ _ _ _ (@pe_tup _ _ _ _ _ (@pa_cons _ _ _ _ _ (@pe_make _ _ _ _ _ _ _ _ _ _ _ _ _ _ _ _ _ MT UI.ok hr2 rfl T.mgC UI.b .nil pass0 (@pa_cons _ _ _ _ _ (@pv _ 3 _ _ (by rfl) (by first | exact Or.inl rfl | exact Or.inr (Or.inl rfl) | exact Or.inr (Or.inr rfl)) (by decide) (by decide)) pa_nil (by rfl)) (by decide) (by rfl) (by rfl)) (@pa_cons _ _ _ _ _ (@pe_call _ _ _ _ _ _ _ _ _ _ _ _ _ _ _ _ UB.ok hr1 (by rfl) UB.m UB.kp UB.b .nil pass0 (@pa_cons _ _ _ _ _ (@pv _ 3 _ _ (by rfl) (by first | exact Or.inl rfl | exact Or.inr (Or.inl rfl) | exact Or.inr (Or.inr rfl)) (by decide) (by decide)) pa_nil (by rfl)) (by decide) (by rfl) (by rfl)) pa_nil (by rfl)) (by rfl))) (@pg_tup _ _ _ _ _ _ rfl (@pgs_cons _ _ _ _ _ (@pg_name _ _ 4 _ scW.nd rfl (Or.inr rfl) (by first | exact .inl rfl | exact .inr rfl | assumption)) (@pgs_cons _ _ _ _ _ (@pg_name _ _ 5 _ scW.nd rfl (Or.inl rfl) (by first | exact .inl rfl | exact .inr rfl | assumption)) pgs_nil (by rfl)) (by rfl)) (by rfl) (by rfl)) (by rfl) (by rfl) (by rfl)) (@pss_one _ _ _ (@ps_for _ _ _ _ _ _ _ _ PassesOwn.never rfl (@pi_range1 _ _ _ _ _ _ rfl G.range (@pa_cons _ _ _ _ _ (@pe_call _ _ _ _ _ _ _ _ _ _ _ _ _ _ _ _ UK.ok hr1 (by rfl) UK.m UK.kp UK.b .nil pass0 (@pa_cons _ _ _ _ _ (@pv _ 1 _ _ (by rfl) (by first | exact Or.inl rfl | exact Or.inr (Or.inl rfl) | exact Or.inr (Or.inr rfl)) (by decide) (by decide)) (@pa_cons _ _ _ _ _ pe_int pa_nil (by rfl)) (by rfl)) (by decide) (by rfl) (by rfl)) pa_nil (by rfl)) (by rfl)) (@pg_name _ _ 6 _ scW.nd rfl (Or.inl rfl) (by first | exact .inl rfl | exact .inr rfl | assumption)) (@pss_cons _ _ _ _ _ (@ps_set _ _ 7 _ _ _ _ scW.nd rfl (Or.inr rfl) (@pe_callB _ _ _ _ _ _ _ _ _ (call_sortedD rfl hr.units) (by rfl) G.sorted (by rfl) (@pa_cons _ _ _ _ _ (@pe_dget _ _ _ _ _ _ hr.u1 (@pv _ 5 _ _ (by rfl) (by first | exact Or.inl rfl | exact Or.inr (Or.inl rfl) | exact Or.inr (Or.inr rfl)) (by decide) (by decide)) pe_str (fun _ _ => rfl)) pa_nil (by rfl)) (by decide) (by decide) (by rfl) (by rfl)) (by rfl) (by first | exact .inl rfl | exact .inr rfl | assumption)) (@pss_cons _ _ _ _ _ (@ps_set _ _ 8 _ _ _ _ scW.nd rfl (Or.inl rfl) (@pe_lst _ _ _ _ (@pa_cons _ _ _ _ _ pe_non (@pa_cons _ _ _ _ _ pe_bl (@pa_cons _ _ _ _ _ pe_bl (@pa_cons _ _ _ _ _ pe_str (@pa_cons _ _ _ _ _ (@pe_tup _ _ _ _ _ (@pa_cons _ _ _ _ _ pe_int pa_nil (by rfl))) (@pa_cons _ _ _ _ _ (@pe_lst _ _ _ _ (@pa_cons _ _ _ _ _ pe_int pa_nil (by rfl))) (@pa_cons _ _ _ _ _ pe_dnewK (@pa_cons _ _ _ _ _ (@pe_un _ _ _ _ _ _ un_neg pe_int) (@pa_cons _ _ _ _ _ (@pe_op _ _ _ _ _ _ _ _ op_pow pe_int pe_int) pa_nil (by rfl)) (by rfl)) (by rfl)) (by rfl)) (by rfl)) (by rfl)) (by rfl)) (by rfl)) (by rfl))) (by rfl) (by first | exact .inl rfl | exact .inr rfl | assumption)) (@pss_cons _ _ _ _ _ (@ps_set _ _ 9 _ _ _ _ scW.nd rfl (Or.inl rfl) (@pe_call _ _ _ _ _ _ _ _ _ _ _ _ _ _ _ _ UL.ok hr2 (by rfl) UL.m UL.kp UL.b .nil pass0 (@pa_cons _ _ _ _ _ (@pv _ 4 _ _ (by rfl) (by first | exact Or.inl rfl | exact Or.inr (Or.inl rfl) | exact Or.inr (Or.inr rfl)) (by decide) (by decide)) pa_nil (by rfl)) (by decide) (by rfl) (by rfl)) (by rfl) (by first | exact .inl rfl | exact .inr rfl | assumption)) (@pss_cons _ _ _ _ _ (@ps_for _ _ _ _ _ _ _ _ PassesOwn.never rfl (@pi_list _ _ _ _ (@pe_op _ _ _ _ _ _ _ _ op_cat (@pv _ 8 _ _ (by rfl) (by first | exact Or.inl rfl | exact Or.inr (Or.inl rfl) | exact Or.inr (Or.inr rfl)) (by decide) (by decide)) (@pe_lst _ _ _ _ (@pa_cons _ _ _ _ _ (@pe_ix _ _ _ _ _ _ _ ix_tup (@pv _ 3 _ _ (by rfl) (by first | exact Or.inl rfl | exact Or.inr (Or.inl rfl) | exact Or.inr (Or.inr rfl)) (by decide) (by decide)) pe_int (fun _ _ => rfl)) (@pa_cons _ _ _ _ _ (@pe_op _ _ _ _ _ _ _ _ op_add (@pe_op _ _ _ _ _ _ _ _ op_add (@pe_ix _ _ _ _ _ _ _ ix_tup (@pv _ 3 _ _ (by rfl) (by first | exact Or.inl rfl | exact Or.inr (Or.inl rfl) | exact Or.inr (Or.inr rfl)) (by decide) (by decide)) pe_int (fun _ _ => rfl)) pe_int) (@pe_call _ _ _ _ _ _ _ _ _ _ _ _ _ _ _ _ UK.ok hr1 (by rfl) UK.m UK.kp UK.b .nil pass0 (@pa_cons _ _ _ _ _ (@pv _ 1 _ _ (by rfl) (by first | exact Or.inl rfl | exact Or.inr (Or.inl rfl) | exact Or.inr (Or.inr rfl)) (by decide) (by decide)) (@pa_cons _ _ _ _ _ pe_int pa_nil (by rfl)) (by rfl)) (by decide) (by rfl) (by rfl))) pa_nil (by rfl)) (by rfl))))) (@pg_name _ _ 10 _ scW.nd rfl (Or.inl rfl) (by first | exact .inl rfl | exact .inr rfl | assumption)) (@pss_one _ _ _ (@ps_if _ _ _ _ _ _ _ _ (@pt_not _ _ _ _ (@pt_val _ _ _ (pe_callC (E := E0) (okS qL) hr (by rfl) mR kR bR [("_law_teller", 4)] (by decide) (hk_one rfl rfl rfl) (@pa_cons _ _ _ _ _ (pe_lam (fr := ["_law_teller"]) CK rfl rfl (free_one (x0 := "_law_teller") rfl rfl) rfl) (@pa_cons _ _ _ _ _ (@pv _ 10 _ _ (by rfl) (by first | exact Or.inl rfl | exact Or.inr (Or.inl rfl) | exact Or.inr (Or.inr rfl)) (by decide) (by decide)) pa_nil (by rfl)) (by rfl))) (by intro _; rfl))) (@pss_one _ _ _ (@ps_ret _ _ _ _ pe_bl)) pss_nil)) (by intro _; rfl)) (@pss_cons _ _ _ _ _ (@ps_setLC _ 11 _ _ _ _ (some _) _ _ _ _ _ _ _ _ ["_law_place", "_law_there"] [none, some 7] scW.nd rfl rfl rfl (@pi_range1 _ _ _ _ _ _ rfl G.range (@pa_cons _ _ _ _ _ (@pe_dget _ _ _ _ _ _ hr.u1 (@pv _ 5 _ _ (by rfl) (by first | exact Or.inl rfl | exact Or.inr (Or.inl rfl) | exact Or.inr (Or.inr rfl)) (by decide) (by decide)) pe_str (fun _ _ => rfl)) pa_nil (by rfl)) (by rfl)) (CapOk.of (by kernel_rfl)) (fun _ _ _ _ _ => (@pg_name _ _ 0 _ (show (["_law_place", "_law_there"] : List Str).Nodup from by decide +kernel) rfl (Or.inl rfl) (Or.inr rfl))) (fun _ _ _ _ _ => (@pt_some _ _ _ (@pt_cmpR _ _ _ _ _ _ _ (rIn K true) op_notIn_seq (@pv _ 0 _ _ (by rfl) (by first | exact Or.inl rfl | exact Or.inr (Or.inl rfl) | exact Or.inr (Or.inr rfl)) (by decide) (by decide)) (@pv _ 1 _ _ (by rfl) (by first | exact Or.inl rfl | exact Or.inr (Or.inl rfl) | exact Or.inr (Or.inr rfl)) (by decide) (by decide)) (by rfl)))) (fun _ _ _ _ _ => (@pv _ 0 _ _ (by rfl) (by first | exact Or.inl rfl | exact Or.inr (Or.inl rfl) | exact Or.inr (Or.inr rfl)) (by decide) (by decide))) (by intro _; rfl) (by with_unfolding_all rfl)) (@pss_cons _ _ _ _ _ (@ps_for _ _ _ _ _ _ _ _ PassesOwn.never rfl (@pi_list _ _ _ _ (@pe_op _ _ _ _ _ _ _ _ op_cat (@pe_op _ _ _ _ _ _ _ _ op_cat (@pv _ 8 _ _ (by rfl) (by first | exact Or.inl rfl | exact Or.inr (Or.inl rfl) | exact Or.inr (Or.inr rfl)) (by decide) (by decide)) (@pe_lst _ _ _ _ (@pa_cons _ _ _ _ _ (@pe_dget _ _ _ _ _ _ hr.u1 (@pv _ 5 _ _ (by rfl) (by first | exact Or.inl rfl | exact Or.inr (Or.inl rfl) | exact Or.inr (Or.inr rfl)) (by decide) (by decide)) pe_str (fun _ _ => rfl)) (@pa_cons _ _ _ _ _ (@pe_op _ _ _ _ _ _ _ _ op_add (@pe_dget _ _ _ _ _ _ hr.u1 (@pv _ 5 _ _ (by rfl) (by first | exact Or.inl rfl | exact Or.inr (Or.inl rfl) | exact Or.inr (Or.inr rfl)) (by decide) (by decide)) pe_str (fun _ _ => rfl)) pe_int) pa_nil (by rfl)) (by rfl)))) (@pe_slice _ _ _ _ _ _ _ _ _ _ sl_list (@pv _ 11 _ _ (by rfl) (by first | exact Or.inl rfl | exact Or.inr (Or.inl rfl) | exact Or.inr (Or.inr rfl)) (by decide) (by decide)) (@po_some _ _ _ (@pe_un _ _ _ _ _ _ un_neg pe_int)) po_none))) (@pg_name _ _ 10 _ scW.nd rfl (Or.inl rfl) (by first | exact .inl rfl | exact .inr rfl | assumption)) (@pss_one _ _ _ (@ps_if _ _ _ _ _ _ _ _ (@pt_not _ _ _ _ (@pt_val _ _ _ (pe_callC (E := E0) (okT qL) hr (by rfl) mR kR bR [("_law_teller", 4)] (by decide) (hk_one rfl rfl rfl) (@pa_cons _ _ _ _ _ (pe_lam (fr := ["_law_teller"]) CK rfl rfl (free_one (x0 := "_law_teller") rfl rfl) rfl) (@pa_cons _ _ _ _ _ (@pv _ 10 _ _ (by rfl) (by first | exact Or.inl rfl | exact Or.inr (Or.inl rfl) | exact Or.inr (Or.inr rfl)) (by decide) (by decide)) pa_nil (by rfl)) (by rfl))) (by intro _; rfl))) (@pss_one _ _ _ (@ps_ret _ _ _ _ pe_bl)) pss_nil)) (by intro _; rfl)) (@pss_cons _ _ _ _ _ (@ps_if _ _ _ _ _ _ _ _ (@pt_cmpR _ _ _ _ _ _ _ _ (op_neD hr.units) (@pe_call _ _ _ _ _ _ _ _ _ _ _ _ _ _ _ _ UL.ok hr2 (by rfl) UL.m UL.kp UL.b .nil pass0 (@pa_cons _ _ _ _ _ (@pv _ 4 _ _ (by rfl) (by first | exact Or.inl rfl | exact Or.inr (Or.inl rfl) | exact Or.inr (Or.inr rfl)) (by decide) (by decide)) pa_nil (by rfl)) (by decide) (by rfl) (by rfl)) (@pv _ 9 _ _ (by rfl) (by first | exact Or.inl rfl | exact Or.inr (Or.inl rfl) | exact Or.inr (Or.inr rfl)) (by decide) (by decide)) (nomark _)) (@pss_one _ _ _ (@ps_ret _ _ _ _ pe_bl)) pss_nil) (@pss_one _ _ _ (@ps_if _ _ _ _ _ _ _ _ (@pw_or _ _ _ _ _ _ _ (@pt_cmpR _ _ _ _ _ _ _ _ (op_eqLi hr.units0) (@pv _ 7 _ _ (by rfl) (by first | exact Or.inl rfl | exact Or.inr (Or.inl rfl) | exact Or.inr (Or.inr rfl)) (by decide) (by decide)) (@pe_lst _ _ _ _ pa_nil) (nomark _)) (@pw_or1 _ _ _ _ (@pt_cmpR _ _ _ _ _ _ _ _ op_eq (@pe_call _ _ _ _ _ _ _ _ _ _ _ _ _ _ _ _ UK.ok hr1 (by rfl) UK.m UK.kp UK.b .nil pass0 (@pa_cons _ _ _ _ _ (@pv _ 1 _ _ (by rfl) (by first | exact Or.inl rfl | exact Or.inr (Or.inl rfl) | exact Or.inr (Or.inr rfl)) (by decide) (by decide)) (@pa_cons _ _ _ _ _ pe_int pa_nil (by rfl)) (by rfl)) (by decide) (by rfl) (by rfl)) pe_int (nomark _)))).pt (@pss_cons _ _ _ _ _ (@ps_set _ _ 12 _ _ _ _ scW.nd rfl (Or.inl rfl) (@pe_call _ _ _ _ _ _ _ _ _ _ _ _ _ _ _ _ UK.ok hr1 (by rfl) UK.m UK.kp UK.b .nil pass0 (@pa_cons _ _ _ _ _ (@pv _ 1 _ _ (by rfl) (by first | exact Or.inl rfl | exact Or.inr (Or.inl rfl) | exact Or.inr (Or.inr rfl)) (by decide) (by decide)) (@pa_cons _ _ _ _ _ (@pe_ix _ _ _ _ _ _ _ ix_tup (@pv _ 3 _ _ (by rfl) (by first | exact Or.inl rfl | exact Or.inr (Or.inl rfl) | exact Or.inr (Or.inr rfl)) (by decide) (by decide)) pe_int (fun _ _ => rfl)) pa_nil (by rfl)) (by rfl)) (by decide) (by rfl) (by rfl)) (by rfl) (by first | exact .inl rfl | exact .inr rfl | assumption)) (@pss_one _ _ _ (@ps_if _ _ _ _ _ _ _ _ (@pt_not _ _ _ _ (@pt_val _ _ _ (@pe_call _ _ _ _ _ _ _ _ _ _ _ _ _ _ _ _ US.ok hr2 (by rfl) US.m US.kp US.b .nil pass0 (@pa_cons _ _ _ _ _ (@pe_meth _ _ _ _ _ _ _ _ _ _ _ _ _ _ _ _ _ _ _ _ (@pv _ 4 _ _ (by rfl) (by first | exact Or.inl rfl | exact Or.inr (Or.inl rfl) | exact Or.inr (Or.inr rfl)) (by decide) (by decide)) T.cl UA.mt UA.ok hr3 UA.b .nil pass0 (@pa_cons _ _ _ _ _ (@pv _ 12 _ _ (by rfl) (by first | exact Or.inl rfl | exact Or.inr (Or.inl rfl) | exact Or.inr (Or.inr rfl)) (by decide) (by decide)) pa_nil (by rfl)) (by rfl) (by rfl) (by rfl)) (@pa_cons _ _ _ _ _ (@pe_call _ _ _ _ _ _ _ _ _ _ _ _ _ _ _ _ UT.ok hr1 (by rfl) UT.m UT.kp UT.b .nil pass0 (@pa_cons _ _ _ _ _ (@pv _ 5 _ _ (by rfl) (by first | exact Or.inl rfl | exact Or.inr (Or.inl rfl) | exact Or.inr (Or.inr rfl)) (by decide) (by decide)) (@pa_cons _ _ _ _ _ (@pv _ 12 _ _ (by rfl) (by first | exact Or.inl rfl | exact Or.inr (Or.inl rfl) | exact Or.inr (Or.inr rfl)) (by decide) (by decide)) pa_nil (by rfl)) (by rfl)) (by decide) (by rfl) (by rfl)) pa_nil (by rfl)) (by rfl)) (by decide) (by rfl) (by rfl)) (by intro _; rfl))) (@pss_one _ _ _ (@ps_ret _ _ _ _ pe_bl)) pss_nil))) (@pss_cons _ _ _ _ _ (@ps_set _ _ 13 _ _ _ _ scW.nd rfl (Or.inl rfl) (@pe_ix _ _ _ _ _ _ _ ix_list (@pv _ 7 _ _ (by rfl) (by first | exact Or.inl rfl | exact Or.inr (Or.inl rfl) | exact Or.inr (Or.inr rfl)) (by decide) (by decide)) (@pe_call _ _ _ _ _ _ _ _ _ _ _ _ _ _ _ _ UK.ok hr1 (by rfl) UK.m UK.kp UK.b .nil pass0 (@pa_cons _ _ _ _ _ (@pv _ 1 _ _ (by rfl) (by first | exact Or.inl rfl | exact Or.inr (Or.inl rfl) | exact Or.inr (Or.inr rfl)) (by decide) (by decide)) (@pa_cons _ _ _ _ _ (@pe_callB _ _ _ _ _ _ _ _ _ call_len_seq (by rfl) G.len PySem.boot_len (@pa_cons _ _ _ _ _ (@pv _ 7 _ _ (by rfl) (by first | exact Or.inl rfl | exact Or.inr (Or.inl rfl) | exact Or.inr (Or.inr rfl)) (by decide) (by decide)) pa_nil (by rfl)) (by decide) (by decide) (by rfl) (by rfl)) pa_nil (by rfl)) (by rfl)) (by decide) (by rfl) (by rfl)) (fun _ _ => rfl)) (by rfl) (by first | exact .inl rfl | exact .inr rfl | assumption)) (@pss_cons _ _ _ _ _ (@ps_set _ _ 14 _ _ _ _ scW.nd rfl (Or.inl rfl) (@pe_call _ _ _ _ _ _ _ _ _ _ _ _ _ _ _ _ UM.ok hr1 (by rfl) UM.m UM.kp UM.b .nil pass0 (@pa_cons _ _ _ _ _ (@pv _ 3 _ _ (by rfl) (by first | exact Or.inl rfl | exact Or.inr (Or.inl rfl) | exact Or.inr (Or.inr rfl)) (by decide) (by decide)) (@pa_cons _ _ _ _ _ (@pv _ 5 _ _ (by rfl) (by first | exact Or.inl rfl | exact Or.inr (Or.inl rfl) | exact Or.inr (Or.inr rfl)) (by decide) (by decide)) (@pa_cons _ _ _ _ _ (@pv _ 13 _ _ (by rfl) (by first | exact Or.inl rfl | exact Or.inr (Or.inl rfl) | exact Or.inr (Or.inr rfl)) (by decide) (by decide)) pa_nil (by rfl)) (by rfl)) (by rfl)) (by decide) (by rfl) (by rfl)) (by rfl) (by first | exact .inl rfl | exact .inr rfl | assumption)) (@pss_one _ _ _ (@ps_if _ _ _ _ _ _ _ _ (@pt_not _ _ _ _ (@pt_val _ _ _ (@pe_call _ _ _ _ _ _ _ _ _ _ _ _ _ _ _ _ US.ok hr2 (by rfl) US.m US.kp US.b .nil pass0 (@pa_cons _ _ _ _ _ (@pe_meth _ _ _ _ _ _ _ _ _ _ _ _ _ _ _ _ _ _ _ _ (@pv _ 4 _ _ (by rfl) (by first | exact Or.inl rfl | exact Or.inr (Or.inl rfl) | exact Or.inr (Or.inr rfl)) (by decide) (by decide)) T.cl UP.mt UP.ok hr3 UP.b .nil pass0 (@pa_cons _ _ _ _ _ (@pv _ 13 _ _ (by rfl) (by first | exact Or.inl rfl | exact Or.inr (Or.inl rfl) | exact Or.inr (Or.inr rfl)) (by decide) (by decide)) pa_nil (by rfl)) (by rfl) (by rfl) (by rfl)) (@pa_cons _ _ _ _ _ (@pv _ 14 _ _ (by rfl) (by first | exact Or.inl rfl | exact Or.inr (Or.inl rfl) | exact Or.inr (Or.inr rfl)) (by decide) (by decide)) pa_nil (by rfl)) (by rfl)) (by decide) (by rfl) (by rfl)) (by intro _; rfl))) (@pss_one _ _ _ (@ps_ret _ _ _ _ pe_bl)) pss_nil))))))))))))) (by intro _; rfl))))) (by intro _; rfl)) (@pss_one _ _ _ (@ps_ret _ _ _ _ pe_bl)))), ?_⟩
  refine ⟨_, rfl, a, ns, rfl, hS, h63, fun l H1 hl s1 S1 => ?_⟩
  refine ⟨4, rfl, by lia, by lia, ?_⟩
  refine for_range (lo := 0) (fun i σ H2 => (∃ v2 v3 v4 v5 v6 v7 v8 v9 v10 v11 v12 v13 v14, σ = [some (.ref a), some (.ref l), v2, v3, v4, v5, v6, v7, v8, v9, v10, v11, v12, v13, v14]) ∧ StAt H2 l (10000 * i) ∧ Tab H2 Pt) ⟨⟨_, _, _, _, _, _, _, _, _, _, _, _, _, rfl⟩, S1, tab.keep s1⟩ ?_ (fun σ H2 _ => k H2)
  rintro i σ H2 hi ⟨⟨v2, v3, v4, v5, v6, v7, v8, v9, v10, v11, v12, v13, v14, rfl⟩, S2, tab2⟩
  have i4 : i < 4 := hi
  refine ⟨_, rfl, l, _, rfl, S2, by lia, fun r fr er ps N H4 ok f30 na4 S4 B4 => ?_⟩
  have tab4 : Tab H4 Pt := tab2.butM (ButM.one B4) S2.mut fun z => by
    obtain ⟨x, y, w, h, _⟩ := S2.ex
    exact tab2.ne h (List.mem_singleton.mp z)
  refine ⟨_, rfl, ?_⟩
  intro t dx nt ndx nex
  have s5 : Same H4 (L2.upd (L2.upd H4 dx (.own t)) t (.ins C dx [])) := fun b o e => by
    rw [upd_ne (ne_of_none e nt), upd_ne (ne_of_none e ndx)]; exact e
  refine ⟨t, dx, r, fr, er, ps, N, rfl, upd_same, ok, na4.tups (Tups.of s5), fun ls lq lc ln H5 f1 f2 f3 f4 te5 kp5 => ⟨rfl, ?_⟩⟩
  have u5 : Same H4 H5 := fun b o e => kp5 b o (s5 b o e) (ne_of_none e nt)
  refine ⟨_, rfl, r, fr, er, ps, N, rfl, ok, na4.tups (Tups.of u5), fun B H6 g1 g2 g3 g4 g5 ka6 s6 => ?_⟩
  have u6 := u5.trans s6
  refine ⟨(by show 2 ≤ sizeLine; decide), fun tt htt => ?_⟩
  have s7 := same_new htt (.tup [.ref t, .ref B.d])
  have u7 := u6.trans s7
  refine ⟨tt, _, rfl, SqT.of (atNew htt _), rfl, _, _, rfl, _, _, rfl, rfl, ?_⟩
  generalize L2.upd H6 tt (.tup [.ref t, .ref B.d]) = H7 at s7 u7 ⊢
  generalize hA : (⟨t, r, fr, er, ps, ls, lq, lc, ln⟩ : Tad) = A1 at te5
  have fr4 : ∀ x ∈ mineA A1 ++ mineB B, H4 x = none := by
    rw [← hA]
    exact mem_mine (none_back s5 f1) (none_back s5 f2) (none_back s5 f3) (none_back s5 f4) (none_back u5 g1) (none_back u5 g2) (none_back u5 g3) (none_back u5 g4) (none_back u5 g5)
  have ap1 : ∀ x ∈ mineA A1, x ∉ mineB B := fun x hx hz => by
    obtain ⟨o, ho, _⟩ := tel_mut te5 x hx
    have : H5 x = none := by
      unfold mineB at hz
      simp only [List.mem_cons, List.mem_nil_iff, or_false] at hz
      rcases hz with rfl | rfl | rfl | rfl | rfl <;> assumption
    rw [ho] at this; cases this
  have eT : A1.t = t := by rw [← hA]
  have eR : A1.r = r := by rw [← hA]
  clear hA
  subst eT eR
  have nin : ∀ {x : Addr} {o : HO}, H4 x = some o → x ∉ mineA A1 ++ mineB B := fun e z => by rw [fr4 _ z] at e; cases e
  have lno : l ∉ mineA A1 ++ mineB B := by
    obtain ⟨sx, sy, sz, hs4, _⟩ := S4.ex
    exact nin hs4
  have pno : Pt ∉ mineA A1 ++ mineB B := by
    obtain ⟨q, hq, _⟩ := tab4
    exact nin hq
  have S7 := S4.keep u7
  have tab7 := tab4.keep u7
  have du7 : Duo C H7 A1 B N (S0 N) := ⟨(te5.keep s6).keep s7, ka6.same s7, ok0 N, ap1⟩
  have l1 := ok.l1
  have l16 := ok.l16
  clear nin fr4 te5 ka6 na4 kp5 g1 g2 g3 g4 g5 f1 f2 f3 f4 tab4 S4 B4 nt ndx nex s5 u5 s6 u6 s7 u7 htt
  refine ⟨_, rfl, l, 30, _, rfl, by decide, by decide, S7, by lia, fun d H8 d0 d1 S8 B8 => ?_⟩
  obtain ⟨d, rfl⟩ := Int.eq_ofNat_of_zero_le d0
  have du8 := du7.take B8 S7 lno
  have pl : Pt ∉ [l] := fun z => by
    obtain ⟨x, y, w, h, _⟩ := S7.ex
    exact tab7.ne h (List.mem_singleton.mp z)
  have tab8 : Tab H8 Pt := tab7.butM (ButM.one B8) S7.mut pl
  refine ⟨d, rfl, by lia, by lia, ?_⟩
  refine for_range (lo := 0) (n := ((d : Nat) : Int).toNat) (fun j σ H8 => (∃ v6 v7 v8 v9 v10 v11 v12 v13 v14, σ = [some (.ref a), some (.ref l), some (.int (0 + (i : Nat))), some (.ref A1.r), some (.ref A1.t), some (.ref B.d), v6, v7, v8, v9, v10, v11, v12, v13, v14]) ∧ StAt H8 l (10000 * i + 1000 + 4 * j) ∧ Tab H8 Pt ∧ ∃ S, Duo C H8 A1 B N S ∧ Few S j) ⟨⟨_, _, _, _, _, _, _, _, _, rfl⟩, S8.mono (by lia), tab8, S0 N, du8, few0 N⟩ ?_ (fun σ H9 z => ?_)
  rotate_left
  · obtain ⟨⟨v6, v7, v8, v9, v10, v11, v12, v13, v14, rfl⟩, S9, tab9, _⟩ := z
    exact ⟨⟨_, _, _, _, _, _, _, _, _, _, _, _, _, rfl⟩, S9.mono (by lia), tab9⟩
  clear du8 S8 B8 tab8 du7 S7 tab7
  rintro j σ H hj ⟨⟨v6, v7, v8, v9, v10, v11, v12, v13, v14, rfl⟩, st, tab9, S, du, fw⟩
  have j30 : j < 30 := by lia
  have f1 := fw.f1
  have f2 := fw.f2
  have wl : (wayL S.spots).length ≤ S.spots.length := Nat.le_trans (List.length_filter_le _ _) (by rw [List.length_range]; exact Nat.le_refl _)
  obtain ⟨kvs, hb, kb, kl⟩ := du.ka.len
  refine ⟨_, rfl, B.d, .ref B.db, rfl, kpt_b ▸ DGet.k (k := .inr "balls") du.ka.hd, B.db, kvs, (wayL S.spots).map (fun (n : Nat) => (n : Int)), rfl, hb, by rw [kb.ks, List.map_map]; rfl, by lia, fun l2 ms hl2 pm so => ?_⟩
  rw [casts pm so (way_sorted _)]
  have s2 := same_new hl2 (.lst (nums (wayL S.spots)))
  have h2 := atNew hl2 (.lst (nums (wayL S.spots)))
  have du2 := du.keep s2
  have st2 := st.keep s2
  have tb2 := tab9.keep s2
  have n2 : l2 ≠ l := (st.ne hl2).symm
  generalize L2.upd H l2 (.lst (nums (wayL S.spots))) = H2 at s2 h2 du2 st2 tb2 ⊢
  clear kb hb kl pm so du st tab9
  refine ⟨by show 1 ≤ sizeLine; decide, fun a1 ha1 => ⟨by show 1 ≤ sizeLine; decide, fun a2 ha2 => fun a3 ha3 => ?_⟩⟩
  refine ⟨_, rfl, _, _, rfl, rfl, ⟨by decide, by decide, by decide⟩, ?_⟩
  refine ⟨by show 9 ≤ sizeLine; decide, fun lo hlo => ?_⟩
  have p1 := same_new ha1 (.tup [.int 0])
  have p2 := same_new ha2 (.lst [.int 0])
  have p3 := same_new ha3 (.dK [])
  have p4 := same_new hlo (.lst (odds a1 a2 a3))
  have na : a2 ≠ l := ((st2.keep p1).ne ha2).symm
  have no : lo ≠ l := ((((st2.keep p1).keep p2).keep p3).ne hlo).symm
  have od : OddAt3 _ a1 a2 a3 := ⟨p4 _ _ (p3 _ _ (p2 _ _ (atNew ha1 (.tup [.int 0])))), p4 _ _ (p3 _ _ (atNew ha2 (.lst [.int 0]))), p4 _ _ (atNew ha3 (.dK []))⟩
  have ho := atNew hlo (.lst (odds a1 a2 a3))
  have p5 := ((p1.trans p2).trans p3).trans p4
  have h3 := p5 _ _ h2
  have du3 := du2.keep p5
  have st3 := st2.keep p5
  have tb3 := tb2.keep p5
  change gName 8 (.ref lo) _ (L2.upd _ lo (.lst (odds a1 a2 a3))) _
  generalize L2.upd _ lo (.lst (odds a1 a2 a3)) = H3 at od ho h3 du3 st3 tb3 ⊢
  clear p1 p2 p3 p4 p5 ha1 ha2 ha3 hlo h2 du2 st2 tb2
  refine ⟨_, rfl, A1, N, S, rfl, du3.te, ⟨by lia, by lia, fun x hx => by have := fw.f3 x hx; lia⟩, fun fm H4 s4 to4 => ?_⟩
  have mi : Mine H4 l2 lo a1 a2 a3 fm S := ⟨s4 _ _ h3, s4 _ _ ho, ⟨s4 _ _ od.h1, s4 _ _ od.h2, s4 _ _ od.h3⟩, to4⟩
  have du4 := du3.keep s4
  have st4 := st3.keep s4
  have tb4 := tb3.keep s4
  clear s4 to4 h3 ho od du3 st3 tb3
  refine ⟨_, rfl, _, rfl, A1.r, _, 0, _, rfl, rfl, SqT.of du4.te.na.net, rfl, _, rfl, A1.r, _, 0, _, rfl, rfl, SqT.of du4.te.na.net, rfl, _, _, rfl, rfl, _, rfl, l, 9, _, rfl, by decide, by decide, st4, by lia, fun y H5 y0 y1 st5 B5 => ?_⟩
  have du5 := du4.take B5 st4 lno
  have tb5 : Tab H5 Pt := tb4.butM (ButM.one B5) st4.mut pl
  have mi5 := mi.take B5 st4 n2 no na
  clear mi du4 tb4 st4 B5
  refine ⟨_, _, rfl, rfl, by show 2 ≤ sizeLine; decide, fun l5 hl5 => ?_⟩
  have s6 := same_new hl5 (.lst [.int (N.lanes : Nat), .int ((N.lanes : Nat) + 1 + y)])
  refine ⟨lo, l5, _, _, rfl, rfl, s6 _ _ mi5.ho, atNew hl5 _, by show 11 ≤ sizeLine; decide, fun l6 hl6 => ?_⟩
  have s7 := same_new hl6 (.lst (odds a1 a2 a3 ++ [.int (N.lanes : Nat), .int ((N.lanes : Nat) + 1 + y)]))
  have h7 := atNew hl6 (.lst (odds a1 a2 a3 ++ [.int (N.lanes : Nat), .int ((N.lanes : Nat) + 1 + y)]))
  have u7 := s6.trans s7
  have st7 := st5.keep u7
  have du7 := du5.keep u7
  have tb7 := tb5.keep u7
  have mi7 := mi5.keep u7
  have bad : ∀ {H : Hp}, OddAt3 H a1 a2 a3 → ∀ x ∈ odds a1 a2 a3 ++ [V.int (N.lanes : Nat), .int ((N.lanes : Nat) + 1 + y)], AnyT K H x ∧ belowV (N.lanes : Nat) x = false := fun {H} od x hx => by
    rcases List.mem_append.mp hx with z | z
    · exact odds_ok od (by lia) x z
    · simp only [List.mem_cons, List.mem_nil_iff, or_false] at z
      rcases z with rfl | rfl
      · exact ⟨any_int _, by show (decide ((0 : Int) ≤ (N.lanes : Nat)) && decide (((N.lanes : Nat) : Int) < (N.lanes : Nat))) = false; rw [show decide (((N.lanes : Nat) : Int) < (N.lanes : Nat)) = false from decide_eq_false (by lia), Bool.and_false]⟩
      · exact ⟨any_int _, by show (decide ((0 : Int) ≤ (N.lanes : Nat) + 1 + y) && decide (((N.lanes : Nat) : Int) + 1 + y < (N.lanes : Nat))) = false; rw [show decide (((N.lanes : Nat) : Int) + 1 + y < (N.lanes : Nat)) = false from decide_eq_false (by lia), Bool.and_false]⟩
  refine ⟨l6, rfl, ⟨_, SqL.of h7⟩, ?_⟩
  generalize L2.upd _ l6 (.lst (odds a1 a2 a3 ++ [.int (N.lanes : Nat), .int ((N.lanes : Nat) + 1 + y)])) = H7 at s7 h7 u7 st7 du7 tb7 mi7 ⊢
  clear s6 s7 u7 hl5 hl6 st5 du5 tb5 mi5
  refine for_list (K := K) (a := l6) (xs := odds a1 a2 a3 ++ [.int (N.lanes : Nat), .int ((N.lanes : Nat) + 1 + y)]) (fun q σ H8 => (∃ v10, σ = [some (.ref a), some (.ref l), some (.int (0 + (i : Nat))), some (.ref A1.r), some (.ref A1.t), some (.ref B.d), some (.int (0 + (j : Nat))), some (.ref l2), some (.ref lo), some (.ref fm), v10, v11, v12, v13, v14]) ∧ StAt H8 l (10000 * i + 1000 + 4 * j + 1) ∧ Duo C H8 A1 B N S ∧ Tab H8 Pt ∧ Mine H8 l2 lo a1 a2 a3 fm S ∧ H8 l6 = some (.lst (odds a1 a2 a3 ++ [.int (N.lanes : Nat), .int ((N.lanes : Nat) + 1 + y)]))) ⟨⟨_, rfl⟩, st7, du7, tb7, mi7, h7⟩ (fun q σ H8 _ z => SqL.of z.2.2.2.2.2) ?_ ?_
  · rintro q x σ H8 hx ⟨⟨v10, rfl⟩, st8, du8, tb8, mi8, h8⟩
    have xm := List.mem_of_getElem? hx
    refine refuse_if (t := A1.t) ?_ ?_ tb8 ?_ ?_ (fun H9 Q' E' b9 hE => ?_) fun H9 tb9 b9 => ?_
    · rfl
    · rfl
    · rfl
    · rfl
    · have te9 := tel_butM du8.te b9 tb8.mut fun x hx z => pno (List.mem_singleton.mp z ▸ List.mem_append.mpr (.inl hx))
      have xo := bad (mi8.tab tb8 b9).od x xm
      exact ⟨A1, x, rfl, rfl, A1, N, S, x, rfl, te9, xo.1, xo.2, hE⟩
    · exact ⟨⟨_, rfl⟩, st8.butM b9 (fun z => pl (List.mem_singleton.mp z ▸ .head _)), du8.butM b9 tb8.mut (fun x hx z => pno (List.mem_singleton.mp z ▸ hx)), tb9, mi8.tab tb8 b9, b9 _ _ h8 (tb8.no h8 fun q z => by cases z)⟩
  rintro σ H8 ⟨⟨v10, rfl⟩, st8, du8, tb8, mi8, h8⟩
  clear st7 du7 tb7 mi7 h7 h8 bad
  refine ⟨_, rfl, B.d, .int (S.spots.length : Nat), rfl, kpt_m ▸ DGet.k (k := .inr "many") du8.ka.hd, _, rfl, by lia, by lia, fun lg hlg => ?_⟩
  refine lc_rangeT (lo := 0) (n := ((S.spots.length : Nat) : Int).toNat) (fun q acc σ H9 => (∃ v0, σ = [v0, some (.ref l2)]) ∧ Same H8 H9 ∧ H9 lg = some (.lst acc) ∧ acc.length ≤ q ∧ ∀ y ∈ acc, ∃ b : Nat, y = .int (b : Nat) ∧ S.spots[b]? = some none) ⟨⟨_, rfl⟩, same_new hlg _, upd_same, Nat.le_refl _, fun y hy => (List.not_mem_nil hy).elim⟩ (fun q acc σ H9 z => z.2.2.1) ?_ ?_
  · rintro q acc σ H9 hq ⟨⟨v0, rfl⟩, s9, h9, al, ab⟩
    refine ⟨_, rfl, _, rfl, l2, _, rfl, .inl (SqL.of (s9 _ _ mi8.h2)), rfl, ?_, ?_⟩
    · unfold nums
      rw [List.all_map, List.all_eq_true]
      exact fun _ _ => rfl
    have ql : q < S.spots.length := by lia
    have e0 : (0 : Int) + (q : Nat) = (q : Nat) := Int.zero_add _
    refine ⟨_, rfl, ?_⟩
    dsimp only
    rw [e0, inV_nums, if_pos rfl]
    by_cases z : q ∈ wayL S.spots
    · rw [decide_eq_true z]
      exact iteF (nx (by lia) ⟨⟨_, rfl⟩, s9, h9, by lia, ab⟩)
    · rw [decide_eq_false z]
      refine iteT ⟨_, rfl, h9, by rw [sizeLine_eq]; lia, nx (by lia) ⟨⟨_, rfl⟩, fun b o e => ?_, upd_same, by rw [List.length_append]; show _ + 1 ≤ _; lia, fun y hy => ?_⟩⟩
      · rw [upd_ne (ne_of_none e hlg)]; exact s9 b o e
      · rcases List.mem_append.mp hy with c | c
        · exact ab y c
        · refine ⟨q, List.mem_singleton.mp c, ?_⟩
          cases e : S.spots[q]? with
          | none => exact absurd (List.getElem?_eq_none_iff.mp e) (by lia)
          | some o =>
            cases o with
            | none => rfl
            | some p => exact absurd (way_mem.mpr ⟨p, e⟩) z
  rintro acc σ H9 ⟨⟨v0, rfl⟩, s9, h9, al, ab⟩
  have st9 := st8.keep s9
  have du9 := du8.keep s9
  have tb9 := tb8.keep s9
  have mi9 := mi8.keep s9
  clear st8 du8 tb8 mi8 s9 hlg v0
  have many := kpt_m ▸ DGet.k (k := .inr "many") du9.ka.hd
  refine ⟨_, rfl, _, rfl, B.d, .int (S.spots.length : Nat), rfl, many, _, rfl, B.d, .int (S.spots.length : Nat), rfl, many, _, _, rfl, rfl, by show 2 ≤ sizeLine; decide, fun l3 hl3 => ?_⟩
  have s10 := same_new hl3 (.lst [.int (S.spots.length : Nat), .int ((S.spots.length : Nat) + 7)])
  refine ⟨lo, l3, _, _, rfl, rfl, s10 _ _ mi9.ho, atNew hl3 _, by show 11 ≤ sizeLine; decide, fun l4 hl4 => ?_⟩
  have s11 := same_new hl4 (.lst (odds a1 a2 a3 ++ [.int (S.spots.length : Nat), .int ((S.spots.length : Nat) + 7)]))
  have h11 := atNew hl4 (.lst (odds a1 a2 a3 ++ [.int (S.spots.length : Nat), .int ((S.spots.length : Nat) + 7)]))
  have h9' := s11 _ _ (s10 _ _ h9)
  refine ⟨_, rfl, ⟨3, rfl, _, rfl, lg, acc, rfl, SqL.of h9', fun l5 hl5 => ?_⟩⟩
  have s12 := same_new hl5 (.lst (cutV acc (some (-3)) none))
  have cl := cutV_length acc (some (-3)) none
  refine ⟨l4, l5, _, _, rfl, rfl, s12 _ _ h11, atNew hl5 _, by rw [sizeLine_eq]; show 11 + _ ≤ _; lia, fun l6 hl6 => ?_⟩
  have s13 := same_new hl6 (.lst (odds a1 a2 a3 ++ [.int (S.spots.length : Nat), .int ((S.spots.length : Nat) + 7)] ++ cutV acc (some (-3)) none))
  have h13 := atNew hl6 (.lst (odds a1 a2 a3 ++ [.int (S.spots.length : Nat), .int ((S.spots.length : Nat) + 7)] ++ cutV acc (some (-3)) none))
  have u13 := ((s10.trans s11).trans s12).trans s13
  have st13 := st9.keep u13
  have du13 := du9.keep u13
  have tb13 := tb9.keep u13
  have mi13 := mi9.keep u13
  have bad : ∀ {H : Hp}, OddAt3 H a1 a2 a3 → ∀ x ∈ odds a1 a2 a3 ++ [V.int (S.spots.length : Nat), .int ((S.spots.length : Nat) + 7)] ++ cutV acc (some (-3)) none, AnyT K H x ∧ (belowV (S.spots.length : Nat) x = false ∨ ∃ i : Nat, x = .int (i : Nat) ∧ S.spots[i]? = some none) := fun {H} od x hx => by
    rcases List.mem_append.mp hx with z | z
    · rcases List.mem_append.mp z with z | z
      · have := odds_ok (K := K) od (b := S.spots.length) (by lia) x z
        exact ⟨this.1, .inl this.2⟩
      · simp only [List.mem_cons, List.mem_nil_iff, or_false] at z
        rcases z with rfl | rfl
        · exact ⟨any_int _, .inl (by show (decide ((0 : Int) ≤ (S.spots.length : Nat)) && decide (((S.spots.length : Nat) : Int) < (S.spots.length : Nat))) = false; rw [show decide (((S.spots.length : Nat) : Int) < (S.spots.length : Nat)) = false from decide_eq_false (by lia), Bool.and_false])⟩
        · exact ⟨any_int _, .inl (by show (decide ((0 : Int) ≤ (S.spots.length : Nat) + 7) && decide (((S.spots.length : Nat) : Int) + 7 < (S.spots.length : Nat))) = false; rw [show decide (((S.spots.length : Nat) : Int) + 7 < (S.spots.length : Nat)) = false from decide_eq_false (by lia), Bool.and_false])⟩
    · obtain ⟨b, rfl, hb⟩ := ab x (cut_mem z)
      exact ⟨any_int _, .inr ⟨b, rfl, hb⟩⟩
  refine ⟨l6, rfl, ⟨_, SqL.of h13⟩, ?_⟩
  generalize L2.upd _ l6 (.lst (odds a1 a2 a3 ++ [.int (S.spots.length : Nat), .int ((S.spots.length : Nat) + 7)] ++ cutV acc (some (-3)) none)) = H13 at s13 h13 u13 st13 du13 tb13 mi13 ⊢
  clear s10 s11 s12 s13 u13 h11 h9' hl3 hl4 hl5 hl6 st9 du9 tb9 mi9 h9 many ab cl
  refine for_list (K := K) (a := l6) (xs := odds a1 a2 a3 ++ [.int (S.spots.length : Nat), .int ((S.spots.length : Nat) + 7)] ++ cutV acc (some (-3)) none) (fun q σ H8 => (∃ v10, σ = [some (.ref a), some (.ref l), some (.int (0 + (i : Nat))), some (.ref A1.r), some (.ref A1.t), some (.ref B.d), some (.int (0 + (j : Nat))), some (.ref l2), some (.ref lo), some (.ref fm), v10, some (.ref lg), v12, v13, v14]) ∧ StAt H8 l (10000 * i + 1000 + 4 * j + 1) ∧ Duo C H8 A1 B N S ∧ Tab H8 Pt ∧ Mine H8 l2 lo a1 a2 a3 fm S ∧ H8 l6 = some (.lst (odds a1 a2 a3 ++ [.int (S.spots.length : Nat), .int ((S.spots.length : Nat) + 7)] ++ cutV acc (some (-3)) none))) ⟨⟨_, rfl⟩, st13, du13, tb13, mi13, h13⟩ (fun q σ H8 _ z => SqL.of z.2.2.2.2.2) ?_ ?_
  · rintro q x σ H8 hx ⟨⟨v10, rfl⟩, st8, du8, tb8, mi8, h8⟩
    have xm := List.mem_of_getElem? hx
    refine refuse_if (t := A1.t) ?_ ?_ tb8 ?_ ?_ (fun H9 Q' E' b9 hE => ?_) fun H9 tb9 b9 => ?_
    · rfl
    · rfl
    · rfl
    · rfl
    · have te9 := tel_butM du8.te b9 tb8.mut fun x hx z => pno (List.mem_singleton.mp z ▸ List.mem_append.mpr (.inl hx))
      have xo := bad (mi8.tab tb8 b9).od x xm
      exact ⟨A1, x, rfl, rfl, A1, N, S, x, rfl, te9, xo.1, xo.2, hE⟩
    · exact ⟨⟨_, rfl⟩, st8.butM b9 (fun z => pl (List.mem_singleton.mp z ▸ .head _)), du8.butM b9 tb8.mut (fun x hx z => pno (List.mem_singleton.mp z ▸ hx)), tb9, mi8.tab tb8 b9, b9 _ _ h8 (tb8.no h8 fun q z => by cases z)⟩
  rintro σ H8 ⟨⟨v10', rfl⟩, st8, du8, tb8, mi8, h8⟩
  clear st13 du13 tb13 mi13 h13 h8 bad
  refine ⟨_, rfl, A1, N, S, rfl, du8.te, ⟨by lia, by lia, fun x hx => by have := fw.f3 x hx; lia⟩, fun p H9 s9 to9 => ?_⟩
  refine ⟨_, rfl, told_same to9 (mi8.keep s9).to ⟨_, rfl, iteF ?_⟩⟩
  have st2 := st8.keep s9
  have du2 := du8.keep s9
  have tb2 := tb8.keep s9
  have h2 := (mi8.keep s9).h2
  clear st8 du8 tb8 mi8 s9 to9
  dsimp only [tNext]
  refine if_or (fun σ H3 => (∃ v12 v13 v14, σ = [some (.ref a), some (.ref l), some (.int (0 + (i : Nat))), some (.ref A1.r), some (.ref A1.t), some (.ref B.d), some (.int (0 + (j : Nat))), some (.ref l2), some (.ref lo), some (.ref fm), v10', some (.ref lg), v12, v13, v14]) ∧ StAt H3 l (10000 * i + 1000 + 4 * j + 2) ∧ Duo C H3 A1 B N S ∧ Tab H3 Pt) ?_ ?_
  · rintro σ H3 ⟨⟨v12, v13, v14, rfl⟩, st3, du3, tb3⟩
    refine ⟨_, rfl, _, rfl, A1.r, _, 0, _, rfl, rfl, SqT.of du3.te.na.net, rfl, l, _, _, rfl, by lia, by lia, st3, by lia, fun x H4 x0 x1 st4 B4 => ?_⟩
    obtain ⟨x, rfl⟩ := Int.eq_ofNat_of_zero_le x0
    have du4 := du3.take B4 st3 lno
    have tb4 : Tab H4 Pt := tb3.butM (ButM.one B4) st3.mut pl
    obtain ⟨dx4, ob4⟩ := du4.te.ob
    refine ⟨_, rfl, A1.t, dx4, _, rfl, ob4, no_a, _, rfl, A1, N, S, x, rfl, ok, du4.te, du4.os, by lia, by lia, fun k H5 nk te5 b5 => ?_⟩
    have ka5 := du4.ka.butM (ButM.of4 b5) (tel_mut du4.te) fun y hy z => du2.ap y z hy
    have tb5 : Tab H5 Pt := tb4.butM (ButM.of4 b5) (tel_mut du4.te) fun z => pno (List.mem_append.mpr (.inl z))
    refine ⟨_, rfl, _, rfl, B, N, S, x, k, rfl, ka5, by lia, nk, fun H6 ka6 b6 => ?_⟩
    have tb6 : Tab H6 Pt := tb5.butM (ButM.of5 b6) ka5.mut fun z => pno (List.mem_append.mpr (.inr z))
    refine ⟨_, _, rfl, Eq2.flat rfl, fun H7 s7 => ⟨true, rfl, iteF ?_⟩⟩
    have st7 := ((st4.butM (ButM.of4 b5) fun z => lno (List.mem_append.mpr (.inl z))).butM (ButM.of5 b6) fun z => lno (List.mem_append.mpr (.inr z))).keep s7
    have te6 := tel_butM te5 (ButM.of5 b6) ka5.mut du2.ap
    exact ⟨⟨_, _, _, _, _, _, _, _, _, rfl⟩, st7.mono (by lia), tb6.keep s7, _, (⟨te6, ka6, du2.os.start (by lia) nk.upto, du2.ap⟩ : Duo C H6 A1 B N _).keep s7, fw.start _⟩
  intro begin
  refine ⟨_, rfl, (by show 0 ≤ sizeLine; decide), fun le hle => ?_⟩
  have s3 := same_new hle (.lst [])
  have h3 := s3 _ _ h2
  have e3 := atNew hle (.lst [])
  have du3 := du2.keep s3
  have st3 := st2.keep s3
  have tb3 := tb2.keep s3
  generalize L2.upd _ le (.lst []) = H3 at s3 h3 e3 du3 st3 tb3 ⊢
  refine ⟨l2, le, (wayL S.spots).map (fun (i : Nat) => (i : Int)), [], rfl, rfl, SqL.of (by rw [h3, List.map_map]; rfl), SqL.of e3, _, rfl, ?_⟩
  by_cases c : wayL S.spots = []
  · rw [decide_eq_true (by rw [c]; rfl)]
    refine iteT (iteT ?_)
    exact begin _ _ ⟨⟨_, _, _, rfl⟩, st3.mono (by lia), du3, tb3⟩
  rw [decide_eq_false (by simpa using c)]
  refine iteF ⟨_, rfl, l, 3, _, rfl, by decide, by decide, st3, by lia, fun x H4 x0 x1 st4 B4 => ?_⟩
  have du4 := du3.take B4 st3 lno
  have h4 := B4 _ _ h3 n2
  have tb4 : Tab H4 Pt := tb3.butM (ButM.one B4) st3.mut pl
  refine ⟨rfl, _, rfl, ?_⟩
  by_cases x00 : x = 0
  · rw [x00, decide_eq_true rfl]
    refine iteT ?_
    exact begin _ _ ⟨⟨_, _, _, rfl⟩, st4.mono (by lia), du4, tb4⟩
  rw [decide_eq_false (show ¬ V.int x = V.int 0 by intro z; injection z with z; exact x00 z)]
  refine iteF ?_
  have w0 : 0 < (wayL S.spots).length := List.length_pos_iff.mpr c
  refine ⟨_, rfl, _, rfl, _, rfl, l2, _, rfl, .inl (SqL.of h4), l, _, _, rfl, by rw [nums_len]; lia, by rw [nums_len]; lia, st4, by lia, fun y H5 y0 y1 st5 B5 => ?_⟩
  obtain ⟨y, rfl⟩ := Int.eq_ofNat_of_zero_le y0
  rw [nums_len] at y1
  have yl : y < (wayL S.spots).length := by lia
  have du7 := du4.take B5 st4 lno
  have h5 := B5 _ _ h4 n2
  have tb7 : Tab H5 Pt := tb4.butM (ButM.one B5) st4.mut pl
  refine ⟨l2, _, _, _, rfl, rfl, SqL.of h5, atI_nat (nums_at' _ _ yl), ?_⟩
  have bm : (wayL S.spots).getD y 0 ∈ wayL S.spots := by
    rw [List.getD_eq_getElem?_getD, List.getElem?_eq_getElem yl]; exact List.getElem_mem yl
  generalize (wayL S.spots).getD y 0 = ball at bm ⊢
  obtain ⟨⟨lane, k⟩, hs⟩ := way_mem.mp bm
  have kle := (du7.os.sp lane k (List.mem_of_getElem? hs)).2
  refine ⟨_, rfl, _, rfl, _, rfl, A1.r, A1.fr, A1.er, A1.ps, N, B, S, ball, lane, k, rfl, ok, du7.te.na, du7.ka, du7.os, hs, by lia, by lia, fun x hx => by have := fw.f3 x hx; lia, fun ke H8 ka8 b8 => ?_, fun kl k' H8 nk ka8 b8 => ?_⟩
  · have te8 := tel_butM du7.te (ButM.of5 b8) du7.ka.mut du2.ap
    have tb8 : Tab H8 Pt := tb7.butM (ButM.of5 b8) du7.ka.mut fun z => pno (List.mem_append.mpr (.inr z))
    have st8 := st5.butM (ButM.of5 b8) fun z => lno (List.mem_append.mpr (.inr z))
    obtain ⟨dx8, ob8⟩ := te8.ob
    refine ⟨_, rfl, A1.t, dx8, _, rfl, ob8, no_s, _, rfl, A1, N, S, ball, lane, k, rfl, ok, te8, du7.os, hs, by lia, by lia, fun _ H9 te9 b9 => ?_, fun kl => absurd kl (by lia)⟩
    have tb9 : Tab H9 Pt := tb8.butM (ButM.of4 b9) (tel_mut te8) fun z => pno (List.mem_append.mpr (.inl z))
    refine ⟨_, rfl, _, _, rfl, Eq2.flat rfl, fun H10 s10 => ⟨true, rfl, iteF ?_⟩⟩
    have ka9 := ka8.butM (ButM.of4 b9) (tel_mut te8) fun y hy z => du2.ap y z hy
    have st9 := (st8.butM (ButM.of4 b9) fun z => lno (List.mem_append.mpr (.inl z))).keep s10
    exact ⟨⟨_, _, _, _, _, _, _, _, _, rfl⟩, st9.mono (by lia), tb9.keep s10, _, (⟨te9, ka9, du2.os.out _ _, du2.ap⟩ : Duo C H9 A1 B N _).keep s10, fw.out⟩
  · have te8 := tel_butM du7.te (ButM.of5 b8) du7.ka.mut du2.ap
    have tb8 : Tab H8 Pt := tb7.butM (ButM.of5 b8) du7.ka.mut fun z => pno (List.mem_append.mpr (.inr z))
    have st8 := st5.butM (ButM.of5 b8) fun z => lno (List.mem_append.mpr (.inr z))
    obtain ⟨dx8, ob8⟩ := te8.ob
    refine ⟨_, rfl, A1.t, dx8, _, rfl, ob8, no_s, _, rfl, A1, N, S, ball, lane, k, rfl, ok, te8, du7.os, hs, by lia, by lia, fun ke => absurd ke (by lia), fun _ k'' H9 nk2 te9 b9 => ?_⟩
    have tb9 : Tab H9 Pt := tb8.butM (ButM.of4 b9) (tel_mut te8) fun z => pno (List.mem_append.mpr (.inl z))
    obtain rfl := nk.one nk2
    refine ⟨_, rfl, _, _, rfl, Eq2.flat rfl, fun H10 s10 => ⟨true, rfl, iteF ?_⟩⟩
    have ka9 := ka8.butM (ButM.of4 b9) (tel_mut te8) fun y hy z => du2.ap y z hy
    have st9 := (st8.butM (ButM.of4 b9) fun z => lno (List.mem_append.mpr (.inl z))).keep s10
    exact ⟨⟨_, _, _, _, _, _, _, _, _, rfl⟩, st9.mono (by lia), tb9.keep s10, _, (⟨te9, ka9, (OkS.go ok du2.os kl nk.upto).2, du2.ap⟩ : Duo C H9 A1 B N _).keep s10, fw.go⟩
end
end K26
end
namespace K26
open PySem L2 Own Bn
structure FnAt (K : PySem.W.Frag) (x : Str) (st : Stmt) (f : Addr) (fd : FuncData) : Prop where
  ns : PySem.W.nsIn K mainGlobals x = some (some (.ref f))
  fn : Fun K x x st f fd
theorem fn_at {K : PySem.W.Frag} {x : Str} {st : Stmt} {f : Addr} {oc : Value} {od an : Option Addr} {osl : Array (Option Value)} {kV doc pm cdv ct : Value} (a : PySem.W.nsIn K mainGlobals x = some (some (.ref f)))
    (l : K.lookup f = some ⟨oc, od, .func (PySem.W.fnOf x x (defArgs st) (defBody st) (defScope st) .none kV doc pm an cdv ct), osl⟩) (c : PySem.W.codeIn K cdv x = true) (k : PySem.W.keepIn K (.ref f) = true) : FnAt K x st f (PySem.W.fnOf x x (defArgs st) (defBody st) (defScope st) .none kV doc pm an cdv ct) := ⟨a, fun_mk l c k⟩
structure FnAtC (K : PySem.W.Frag) (x : Str) (st : Stmt) (f : Addr) (fd : FuncData) (c : Addr) : Prop where
  ns : PySem.W.nsIn K mainGlobals x = some (some (.ref f))
  fn : FunC K x x st f fd c
theorem fn_atC {K : PySem.W.Frag} {x : Str} {st : Stmt} {f c : Addr} {oc : Value} {od an : Option Addr} {osl : Array (Option Value)} {kV doc pm ct : Value} (a : PySem.W.nsIn K mainGlobals x = some (some (.ref f)))
    (l : K.lookup f = some ⟨oc, od, .func (PySem.W.fnOf x x (defArgs st) (defBody st) (defScope st) .none kV doc pm an (.ref c) ct), osl⟩) (cd : PySem.W.codeIn K (.ref c) x = true) (k : PySem.W.keepIn K (.ref f) = true) : FnAtC K x st f (PySem.W.fnOf x x (defArgs st) (defBody st) (defScope st) .none kV doc pm an (.ref c) ct) c := ⟨a, ⟨⟨_, _, _, _, _, _, _, _, rfl, l, cd⟩, k⟩⟩
theorem codeHd_mk {K : PySem.W.Frag} {c P : Addr} {od : Option Addr} {vs : Array Value} {osl : Array (Option Value)} (l : K.lookup c = some ⟨.type "code", od, .fields vs, osl⟩) (e : PySem.W.codeHdIn [(c, ⟨.type "code", od, .fields vs, osl⟩)] c P = true) : PySem.W.codeHdIn K c P = true := by
  have q : List.lookup c [(c, (⟨.type "code", od, .fields vs, osl⟩ : Obj))] = some ⟨.type "code", od, .fields vs, osl⟩ := by rw [List.lookup_cons, beq_self_eq_true]
  unfold PySem.W.codeHdIn at e ⊢
  rw [q] at e
  rw [l]; exact e
structure MethAt (K : PySem.W.Frag) (C : Addr) (x q : Str) (st : Stmt) (f : Addr) (fd : FuncData) : Prop where
  mt : Meth K C x f
  fn : Fun K x q st f fd
theorem meth_at {K : PySem.W.Frag} {C : Addr} {x q : Str} {st : Stmt} {f : Addr} {oc : Value} {od an : Option Addr} {osl : Array (Option Value)} {kV doc pm cdv ct : Value} (a : PySem.W.findIn K (.ref C) x = some (some (.ref f))) (i : PySem.W.isFn K (.ref f) = true)
    (l : K.lookup f = some ⟨oc, od, .func (PySem.W.fnOf x q (defArgs st) (defBody st) (defScope st) .none kV doc pm an cdv ct), osl⟩) (c : PySem.W.codeIn K cdv q = true) (k : PySem.W.keepIn K (.ref f) = true) : MethAt K C x q st f (PySem.W.fnOf x q (defArgs st) (defBody st) (defScope st) .none kV doc pm an cdv ct) := ⟨⟨a, i, k⟩, fun_mk (st := st) l c k⟩
structure InitAt (K : PySem.W.Frag) (q : Str) (st : Stmt) (f : Addr) (fd : FuncData) : Prop where
  fn : Fun K "__init__" q st f fd
  fl : ∃ oI, K.lookup f = some oI ∧ oI.cls = .type "function"
theorem init_at {K : PySem.W.Frag} {q : Str} {st : Stmt} {f : Addr} {od an : Option Addr} {osl : Array (Option Value)} {kV doc pm cdv ct : Value} (l : K.lookup f = some ⟨.type "function", od, .func (PySem.W.fnOf "__init__" q (defArgs st) (defBody st) (defScope st) .none kV doc pm an cdv ct), osl⟩) (c : PySem.W.codeIn K cdv q = true) (k : PySem.W.keepIn K (.ref f) = true) : InitAt K q st f (PySem.W.fnOf "__init__" q (defArgs st) (defBody st) (defScope st) .none kV doc pm an cdv ct) := ⟨fun_mk (st := st) l c k, _, l, rfl⟩
theorem us1 {us : List Value} (h : us.length = 1) : ∃ u0, us = [u0] := by
  match us, h with
  | [u0], _ => exact ⟨u0, rfl⟩
theorem us2 {us : List Value} (h : us.length = 2) : ∃ u0 u1, us = [u0, u1] := by
  match us, h with
  | [u0, u1], _ => exact ⟨u0, u1, rfl⟩
theorem us3 {us : List Value} (h : us.length = 3) : ∃ u0 u1 u2, us = [u0, u1, u2] := by
  match us, h with
  | [u0, u1, u2], _ => exact ⟨u0, u1, u2, rfl⟩
set_option maxHeartbeats 4000001 in
theorem all_mk {l : PySem.W.OpenLaw} {w : World} {K : PySem.W.Frag} {h : Heap} {mg : Str → Option Value} {fa f1 f2 f3 f4 f5 f6 f7 f8 f9 f10 f11 f12 f13 f14 : Addr} {d1 d2 d3 d4 d5 d6 d7 d8 d9 d10 d11 d12 d13 d14 : FuncData} (X : K.In h) (G : h.Ns mainGlobals mg) (hfa : mg "law" = some (.ref fa))
    {cLaw Pt : Addr}
    (A1 : FnAt K "_law_hand" sHand f1 d1)
    (A2 : FnAt K "_law_take" sTake f2 d2)
    (A3 : FnAt K "_law_net" sNet f3 d3)
    (A4 : FnAt K "is_whole" sWhole f4 d4)
    (A5 : FnAt K "is_below" sBelow f5 d5)
    (A6 : FnAt K "next_fork" sNext f6 d6)
    (A7 : FnAt K "end_of" sEnd f7 d7)
    (A8 : FnAt K "_law_start" sKStart f8 d8)
    (A9 : FnAt K "_law_begun" sKBegun f9 d9)
    (A10 : FnAt K "_law_step" sKStep f10 d10)
    (A11 : FnAt K "_law_same" sSame f11 d11)
    (A12 : FnAt K "_law_told" sTold f12 d12)
    (A13 : FnAt K "_law_refused" sRef f13 d13)
    (A14 : FnAtC K "law" sLaw f14 d14 cLaw)
    (z1 : PySem.W.nsIn K mainGlobals "len" = some none)
    (z2 : PySem.W.nsIn K mainGlobals "range" = some none)
    (z3 : PySem.W.nsIn K mainGlobals "tuple" = some none)
    (z4 : PySem.W.nsIn K mainGlobals "enumerate" = some none)
    (z5 : PySem.W.nsIn K mainGlobals "abs" = some none)
    (z6 : PySem.W.nsIn K mainGlobals "zip" = some none)
    (z7 : PySem.W.nsIn K mainGlobals "isinstance" = some none)
    (z8 : PySem.W.nsIn K mainGlobals "all" = some none)
    (z9 : PySem.W.nsIn K mainGlobals "sum" = some none)
    (z10 : PySem.W.nsIn K mainGlobals "bool" = some none)
    (z11 : PySem.W.nsIn K mainGlobals "int" = some none)
    (z12 : PySem.W.nsIn K mainGlobals "str" = some none)
    (z13 : PySem.W.nsIn K mainGlobals "max" = some none)
    (z14 : PySem.W.nsIn K mainGlobals "min" = some none)
    (z15 : PySem.W.nsIn K mainGlobals "sorted" = some none)
    (z16 : PySem.W.nsIn K mainGlobals "list" = some none)
    (z17 : PySem.W.nsIn K mainGlobals "ValueError" = some none)
    {C g1 g2 g3 g4 g5 g6 g7 : Addr} {e1 e2 e3 e4 e5 e6 e7 : FuncData} (aC : PySem.W.nsIn K mainGlobals "Teller" = some (some (.ref C)))
    (B1 : MethAt K C "__init__" "Teller.__init__" sTInit g1 e1)
    (B2 : MethAt K C "start" "Teller.start" sTStart g2 e2)
    (B3 : MethAt K C "step" "Teller.step" sTStep g3 e3)
    (B4 : MethAt K C "number_at" "Teller.number_at" sTNumber g4 e4)
    (B5 : MethAt K C "way" "Teller.way" sTWay g5 e5)
    (B6 : MethAt K C "given" "Teller.given" sTGiven g6 e6)
    (B7 : MethAt K C "turns" "Teller.turns" sTTurns g7 e7)
    (pg : PySem.W.plainGet K C Str.empty = true) (hd : PySem.W.hasDictIn K C = true) (po : PySem.W.plainOver K C = true) (sa : PySem.W.findIn K (.ref C) "__setattr__" = some (some (.builtin "object.__setattr__"))) (mk : PySem.W.makesIn K C = true) (kc : PySem.W.keepIn K (.ref C) = true)
    (na0 : PySem.W.findIn K (.ref C) "net" = some none) (na1 : PySem.W.findIn K (.ref C) "settings" = some none) (na2 : PySem.W.findIn K (.ref C) "spots" = some none) (na3 : PySem.W.findIn K (.ref C) "came" = some none) (na4 : PySem.W.findIn K (.ref C) "numbers" = some none)
    {CL CG CD CO CN CE fI NG : Addr} {dI : FuncData} {xa xb : Str} {bsG subG : List Value} {snG : List Str} {abG : Bool} {colG : Option Bool} {ddG : Option Addr} {gx0 gx1 gx2 gx3 gx5 : Option Value}
    (aL : PySem.W.nsIn K mainGlobals "LaneError" = some (some (.ref CL))) (aG : PySem.W.nsIn K mainGlobals "NoDeed" = some (some (.ref CG))) (aD : PySem.W.nsIn K mainGlobals "NoText" = some (some (.ref CD))) (aO : PySem.W.nsIn K mainGlobals "NoGroup" = some (some (.ref CO))) (aN : PySem.W.nsIn K mainGlobals "NoLine" = some (some (.ref CN))) (aE : PySem.W.nsIn K mainGlobals "NotEven" = some (some (.ref CE)))
    (lG : K.lookup CG = some (excClassObj xa xb CG NG bsG (.ref CL :: bmV) true snG subG abG colG ddG gx0 gx1 gx2 gx3 gx5 "ValueError.__new__")) {oN oM : Obj} {cL cD cO cN cE : ClassData} (lN : K.lookup NG = some oN) (uN : PySem.W.nsOkIn [(NG, oN)] NG = true) (iG : PySem.W.nsIn K NG "__init__" = some (some (.ref fI)))
    (AI : InitAt K "NoDeed.__init__" sDInit fI dI) (cCL : PySem.W.clsIn K CL = some cL) (lM : K.lookup cL.ns = some oM) (uM : PySem.W.nsOkIn [(cL.ns, oM)] cL.ns = true) (iM : PySem.W.nsIn K cL.ns "__init__" = some none) (seG : PySem.W.findIn K (.ref CG) "__setattr__" = some (some (.builtin "object.__setattr__"))) (kpG : PySem.W.keepIn K (.ref CG) = true)
    (spL : PySem.W.specialIn K (.ref CL) "__getattribute__" = some (some (.builtin "type.__getattribute__"))) (rdL : PySem.W.readsIn K CL (.type "type") = true) (fdL : PySem.W.findCls K (.ref CL) (.type "type") "__init__" = some (.val (.builtin "ValueError.__init__")))
    (x1 : PySem.W.findIn K (.ref CG) "__getattribute__" = some (some (.builtin "BaseException.__getattribute__"))) (x2 : PySem.W.findIn K (.ref CG) "__getattr__" = some none) (x3 : PySem.W.mroIn K CG (.type "BaseException") = some true) (x4 : PySem.W.mroIn K CG (.type "object") = some true) (x5 : PySem.W.findIn K (.ref CG) "__class__" = some (some (.builtin "object.__class__")))
    (x6 : PySem.W.specialIn K (.builtin "object.__class__") "__get__" = some (some (.builtin "getset_descriptor.__get__"))) (x7 : PySem.W.takesIn K (.builtin "object.__class__") = some true) (x8 : PySem.W.hasDictIn K CG = true)
    (y1 : PySem.W.mroIn K CL (.type "BaseException") = some true) (y2 : PySem.W.typeIn K (.ref CL) = some (.type "type")) (y3 : PySem.W.mroIn K CG (.ref CL) = some true) (y4 : (Value.ref CG == Value.ref CG) = true) (y5D : (Value.ref CG == Value.ref CD) = false) (cCD : PySem.W.clsIn K CD = some cD) (y6D : PySem.W.typeIn K (.ref CD) = some (.type "type")) (y7D : PySem.W.mroIn K CG (.ref CD) = some false) (y5O : (Value.ref CG == Value.ref CO) = false) (cCO : PySem.W.clsIn K CO = some cO) (y6O : PySem.W.typeIn K (.ref CO) = some (.type "type")) (y7O : PySem.W.mroIn K CG (.ref CO) = some false) (y5N : (Value.ref CG == Value.ref CN) = false) (cCN : PySem.W.clsIn K CN = some cN) (y6N : PySem.W.typeIn K (.ref CN) = some (.type "type")) (y7N : PySem.W.mroIn K CG (.ref CN) = some false) (y5E : (Value.ref CG == Value.ref CE) = false) (cCE : PySem.W.clsIn K CE = some cE) (y6E : PySem.W.typeIn K (.ref CE) = some (.type "type")) (y7E : PySem.W.mroIn K CG (.ref CE) = some false) (y8 : (Value.ref CG == Value.type "ValueError") = false) (y9 : PySem.W.kitMeta "ValueError" = true) (y0 : PySem.W.mroIn K CG (.type "ValueError") = some true) (nap : PySem.W.findIn K (.ref CG) "place" = some none)
    (cH : PySem.W.codeHdIn K cLaw Pt = true) (nB4 : mainGlobals ≠ Pt) (kP : K.lookup Pt = none)
    : (K.lookup Pt = none ∧ ∃ c, PySem.W.codeHdIn K c Pt = true) ∧ ∃ fd : FuncData, (∀ (s : Shared) (v : Value), BindsTo s fd ⟨[v], []⟩ [("_law_script", v)]) ∧ ∀ base : Heap, K.In base → base.Ns mainGlobals mg → (∀ p ∈ [Pt], base.BuiltinsAt mg p) → FnOk l.prog w K mg base CX0 6 fa fd ["_law_script"] (spLaw K Pt) := by
  have e := hfa.symm.trans (PySem.W.mg_of X G A14.ns)
  cases e
  have M : Mgs mg := ⟨PySem.W.mg_none_of X G z1, PySem.W.mg_none_of X G z2, PySem.W.mg_none_of X G z3, PySem.W.mg_none_of X G z4, PySem.W.mg_none_of X G z5, PySem.W.mg_none_of X G z6, PySem.W.mg_none_of X G z7, PySem.W.mg_none_of X G z8, PySem.W.mg_none_of X G z9, PySem.W.mg_none_of X G z10, PySem.W.mg_none_of X G z11, PySem.W.mg_none_of X G z12, PySem.W.mg_none_of X G z13, PySem.W.mg_none_of X G z14, PySem.W.mg_none_of X G z15, PySem.W.mg_none_of X G z16⟩
  have M2 : MgV mg := ⟨PySem.W.mg_none_of X G z17⟩
  have b1 := A1.fn.binds (ps := ["_law_script"]) fun _ _ _ _ _ _ us hl => by obtain ⟨u0, rfl⟩ := us1 hl; rfl
  have m1 := PySem.W.mg_of X G A1.ns
  have b2 := A2.fn.binds (ps := ["_law_state", "_law_many"]) fun _ _ _ _ _ _ us hl => by obtain ⟨u0, u1, rfl⟩ := us2 hl; rfl
  have m2 := PySem.W.mg_of X G A2.ns
  have b3 := A3.fn.binds (ps := ["_law_state", "_law_lanes_most", "_law_forks_most"]) fun _ _ _ _ _ _ us hl => by obtain ⟨u0, u1, u2, rfl⟩ := us3 hl; rfl
  have m3 := PySem.W.mg_of X G A3.ns
  have b4 := A4.fn.binds (ps := ["thing"]) fun _ _ _ _ _ _ us hl => by obtain ⟨u0, rfl⟩ := us1 hl; rfl
  have m4 := PySem.W.mg_of X G A4.ns
  have b5 := A5.fn.binds (ps := ["thing", "bound"]) fun _ _ _ _ _ _ us hl => by obtain ⟨u0, u1, rfl⟩ := us2 hl; rfl
  have m5 := PySem.W.mg_of X G A5.ns
  have b6 := A6.fn.binds (ps := ["net", "lane", "number"]) fun _ _ _ _ _ _ us hl => by obtain ⟨u0, u1, u2, rfl⟩ := us3 hl; rfl
  have m6 := PySem.W.mg_of X G A6.ns
  have b7 := A7.fn.binds (ps := ["net", "lane"]) fun _ _ _ _ _ _ us hl => by obtain ⟨u0, u1, rfl⟩ := us2 hl; rfl
  have m7 := PySem.W.mg_of X G A7.ns
  have b8 := A8.fn.binds (ps := ["_law_kept", "_law_lane"]) fun _ _ _ _ _ _ us hl => by obtain ⟨u0, u1, rfl⟩ := us2 hl; rfl
  have m8 := PySem.W.mg_of X G A8.ns
  have b9 := A9.fn.binds (ps := ["_law_net_here"]) fun _ _ _ _ _ _ us hl => by obtain ⟨u0, rfl⟩ := us1 hl; rfl
  have m9 := PySem.W.mg_of X G A9.ns
  have b10 := A10.fn.binds (ps := ["_law_net_here", "_law_kept", "_law_ball"]) fun _ _ _ _ _ _ us hl => by obtain ⟨u0, u1, u2, rfl⟩ := us3 hl; rfl
  have m10 := PySem.W.mg_of X G A10.ns
  have b11 := A11.fn.binds (ps := ["_law_found", "_law_due"]) fun _ _ _ _ _ _ us hl => by obtain ⟨u0, u1, rfl⟩ := us2 hl; rfl
  have m11 := PySem.W.mg_of X G A11.ns
  have b12 := A12.fn.binds (ps := ["_law_teller"]) fun _ _ _ _ _ _ us hl => by obtain ⟨u0, rfl⟩ := us1 hl; rfl
  have m12 := PySem.W.mg_of X G A12.ns
  have b13 := A13.fn.binds (ps := ["_law_deed", "_law_thing"]) fun _ _ _ _ _ _ us hl => by obtain ⟨u0, u1, rfl⟩ := us2 hl; rfl
  have m13 := PySem.W.mg_of X G A13.ns
  have T : Txt K mg C := ⟨⟨pg, hd, po, sa⟩, na0, na1, na2, na3, na4, PySem.W.mg_of X G aC⟩
  have MT : Mk K C g1 := ⟨mk, B1.mt.at_, B1.mt.fn, kc⟩
  have q1 := B1.fn.binds (ps := ["self", "net"]) fun _ _ _ _ _ _ us hl => by obtain ⟨u0, u1, rfl⟩ := us2 hl; rfl
  have q2 := B2.fn.binds (ps := ["self", "lane"]) fun _ _ _ _ _ _ us hl => by obtain ⟨u0, u1, rfl⟩ := us2 hl; rfl
  have q3 := B3.fn.binds (ps := ["self", "ball"]) fun _ _ _ _ _ _ us hl => by obtain ⟨u0, u1, rfl⟩ := us2 hl; rfl
  have q4 := B4.fn.binds (ps := ["self", "end"]) fun _ _ _ _ _ _ us hl => by obtain ⟨u0, u1, rfl⟩ := us2 hl; rfl
  have q5 := B5.fn.binds (ps := ["self"]) fun _ _ _ _ _ _ us hl => by obtain ⟨u0, rfl⟩ := us1 hl; rfl
  have q6 := B6.fn.binds (ps := ["self"]) fun _ _ _ _ _ _ us hl => by obtain ⟨u0, rfl⟩ := us1 hl; rfl
  have q7 := B7.fn.binds (ps := ["self"]) fun _ _ _ _ _ _ us hl => by obtain ⟨u0, rfl⟩ := us1 hl; rfl
  have mL := PySem.W.mg_of X G aL
  have mG := PySem.W.mg_of X G aG
  have mD := PySem.W.mg_of X G aD
  have mO := PySem.W.mg_of X G aO
  have mN := PySem.W.mg_of X G aN
  have mE := PySem.W.mg_of X G aE
  have XO : XOwn K CG CL fI := ⟨⟨_, _, _, _, _, _, _, _, _, _, _, _, _, _, lG, nsOk_of lN uN, iG⟩, tail_own cCL (nsOk_of lM uM) iM, AI.fl, seG, kpG⟩
  have XB : XBase K CL := ⟨spL, rdL, fdL⟩
  have XI : XIs K CG := ⟨x1, x2, x3, x4, x5, x6, x7, x8⟩
  have xm := exm_own y1 cCL y2 y3
  have kg := kit_same (K := K) y4
  have ka := kitAny_no (kit_other y5O cCO y6O y7O) (kitAny_no (kit_other y5N cCN y6N y7N) (kitAny_no (kit_other y5D cCD y6D y7D) (kitAny_no (kit_other y5E cCE y6E y7E) (show PySem.W.kitAny K (.ref CG) [] = some false from rfl))))
  have kv := kit_ty y8 y9 y0
  have bI := AI.fn.binds (ps := ["self", "place"]) fun _ _ _ _ _ _ us hl => by obtain ⟨u0, u1, rfl⟩ := us2 hl; rfl
  obtain ⟨oc, od, kV, doc, pm, an, ct, osl, ed, _, _⟩ := id A14.fn.ex
  refine ⟨⟨kP, cLaw, cH⟩, d14, fun s v => by rw [ed]; exact .of_eq rfl, fun base _ _ bB => ?_⟩
  have CK : CodeK K mg base cLaw Pt := ⟨cH, bB Pt (.head _), nB4⟩
  have U1 : Use l.prog w K mg base "_law_hand" ["_law_script"] 1 (spHand K) f1 d1 := ⟨ok_hand A1.fn M, b1, A1.fn.kp, m1⟩
  have U2 : Use l.prog w K mg base "_law_take" ["_law_state", "_law_many"] 1 (spTake K) f2 d2 := ⟨ok_take A2.fn, b2, A2.fn.kp, m2⟩
  have U3 : Use l.prog w K mg base "_law_net" ["_law_state", "_law_lanes_most", "_law_forks_most"] 2 spNet f3 d3 := ⟨ok_net A3.fn M U2, b3, A3.fn.kp, m3⟩
  have U4 : Use l.prog w K mg base "is_whole" ["thing"] 1 (spWhole K) f4 d4 := ⟨ok_whole A4.fn M, b4, A4.fn.kp, m4⟩
  have U5 : Use l.prog w K mg base "is_below" ["thing", "bound"] 2 (spBelow K) f5 d5 := ⟨ok_below A5.fn M U4, b5, A5.fn.kp, m5⟩
  have U6 : Use l.prog w K mg base "next_fork" ["net", "lane", "number"] 1 spNext f6 d6 := ⟨ok_next A6.fn M, b6, A6.fn.kp, m6⟩
  have U7 : Use l.prog w K mg base "end_of" ["net", "lane"] 1 spEnd f7 d7 := ⟨ok_end A7.fn, b7, A7.fn.kp, m7⟩
  have W1 : UseM l.prog w K mg base C "__init__" ["self", "net"] 1 (spTInit C) g1 e1 := ⟨ok_tinit B1.fn M T, q1, B1.mt⟩
  have W2 : UseM l.prog w K mg base C "start" ["self", "lane"] 3 (spTStart C) g2 e2 := ⟨ok_tstart B2.fn M T U5 U6, q2, B2.mt⟩
  have W4 : UseM l.prog w K mg base C "number_at" ["self", "end"] 1 (spTNumber C) g4 e4 := ⟨ok_tnumber B4.fn M T, q4, B4.mt⟩
  have W3 : UseM l.prog w K mg base C "step" ["self", "ball"] 3 (spTStep C) g3 e3 := ⟨ok_tstep B3.fn M T U5 U6 U7 W4, q3, B3.mt⟩
  have W5 : UseM l.prog w K mg base C "way" ["self"] 1 (spTWay C) g5 e5 := ⟨ok_tway B5.fn M T, q5, B5.mt⟩
  have W6 : UseM l.prog w K mg base C "given" ["self"] 1 (spTGiven C) g6 e6 := ⟨ok_tgiven B6.fn M T, q6, B6.mt⟩
  have W7 : UseM l.prog w K mg base C "turns" ["self"] 1 (spTTurns C) g7 e7 := ⟨ok_tturns B7.fn M T, q7, B7.mt⟩
  have U8 : Use l.prog w K mg base "_law_start" ["_law_kept", "_law_lane"] 1 spKStart f8 d8 := ⟨ok_kstart A8.fn M, b8, A8.fn.kp, m8⟩
  have U9 : Use l.prog w K mg base "_law_begun" ["_law_net_here"] 1 spKBegun f9 d9 := ⟨ok_kbegun A9.fn M, b9, A9.fn.kp, m9⟩
  have U10 : Use l.prog w K mg base "_law_step" ["_law_net_here", "_law_kept", "_law_ball"] 1 spKStep f10 d10 := ⟨ok_kstep A10.fn M, b10, A10.fn.kp, m10⟩
  have U11 : Use l.prog w K mg base "_law_same" ["_law_found", "_law_due"] 2 (spSame 1) f11 d11 := ⟨ok_same A11.fn M b11 m11 1, b11, A11.fn.kp, m11⟩
  have U12 : Use l.prog w K mg base "_law_told" ["_law_teller"] 2 (spTold C) f12 d12 := ⟨ok_told A12.fn M T W5 W6 W7, b12, A12.fn.kp, m12⟩
  exact ok_law A14.fn CK M T MT U1 U2 U3 W1 U9 U12 U11 U8 U10 (fun q => ok_refused A13.fn M (lam_start q T (ok_tstartx B2.fn M T U5 XO (ok_dinit AI.fn XB XO mL nap) bI mG) W2.b W2.mt) mL M2.ve mG mO mN mD mE XI xm kv ka kg nap) (fun q => ok_refused A13.fn M (lam_step q T (ok_tstepx B3.fn M T U5 XO (ok_dinit AI.fn XB XO mL nap) bI mG) W3.b W3.mt) mL M2.ve mG mO mN mD mE XI xm kv ka kg nap) b13 A13.fn.kp m13 W2 W3
theorem walk {l : PySem.W.OpenLaw} {q : Program} {loose : List Str} {XP : (Str → Option Value) → Heap → Prop} {YP : World → Heap → Prop} {d : DefRec} {K : Params → PySem.W.Frag} {Pt : Addr} (hn : l.most = some 63) (hdf : d.params.defaults = [])
    (hY : ∀ (w : World) (h : Heap), YP w h → (K w.params).In h ∧ ∀ p ∈ [Pt], h.get? p = some (PySem.W.tabObj #[]))
    (F : ∀ (w : World) (mg : Str → Option Value) (fa : Addr) (h : Heap), (K w.params).In h → h.Ns mainGlobals mg → mg d.name = some (.ref fa) → ((K w.params).lookup Pt = none ∧ ∃ c, PySem.W.codeHdIn (K w.params) c Pt = true) ∧
      ∃ fd : FuncData, (∀ (s : Shared) (u : Value), BindsTo s fd ⟨[u], []⟩ [("_law_script", u)]) ∧ ∀ base : Heap, (K w.params).In base → base.Ns mainGlobals mg → (∀ p ∈ [Pt], base.BuiltinsAt mg p) → FnOk l.prog w (K w.params) mg base CX0 6 fa fd ["_law_script"] (spLaw (K w.params) Pt)) :
    PySem.W.WalkO q loose XP YP l.row.toRowW d [] (fun f vs => PySem.call f vs) :=
  L2.walk_ofT (n := 63) (k := 6) (x := "_law_script") (CX := CX0) (sp := fun K => spLaw K Pt) [Pt] hn (by decide) hdf ⟨rfl, by decide, by decide, rfl⟩ hY (fun w mg fa h a b c => ⟨fun p hp => List.mem_singleton.mp hp ▸ (F w mg fa h a b c).1, (F w mg fa h a b c).2⟩) (fun _ _ a ns hl hS ht => ⟨a, ns, rfl, hS, hl, ht Pt (.head _), fun _ => rfl⟩) fun _ _ _ _ z => z
end K26
open PySem PySem.W PyProof.Rows
set_option maxRecDepth 100000 in
set_option maxHeartbeats 0 in
theorem PySem.Challenge.cw_stairlanes_k26_tellers_refuse_holds : PySem.Challenge.rw_stairlanes_k26_tellers_refuse.Holds := by
  w_on; o_law; k_head; (case hw => w_witness2)
  k_fill
  refine K26.walk (l := PySem.Challenge.rw_stairlanes_k26_tellers_refuse) rfl rfl (fun w h Y => ⟨PySem.W.km_in_of Y, PySem.W.km_tabs_of Y⟩) ?F
  case F =>
    intro w mg fa h KX G hmg
    refine' K26.all_mk KX G hmg (K26.fn_at ?a1 ?l1 ?c1 ?k1) (K26.fn_at ?a2 ?l2 ?c2 ?k2) (K26.fn_at ?a3 ?l3 ?c3 ?k3) (K26.fn_at ?a4 ?l4 ?c4 ?k4) (K26.fn_at ?a5 ?l5 ?c5 ?k5) (K26.fn_at ?a6 ?l6 ?c6 ?k6) (K26.fn_at ?a7 ?l7 ?c7 ?k7) (K26.fn_at ?a8 ?l8 ?c8 ?k8) (K26.fn_at ?a9 ?l9 ?c9 ?k9) (K26.fn_at ?a10 ?l10 ?c10 ?k10) (K26.fn_at ?a11 ?l11 ?c11 ?k11) (K26.fn_at ?a12 ?l12 ?c12 ?k12) (K26.fn_at ?a13 ?l13 ?c13 ?k13) (K26.fn_atC ?a14 ?l14 ?c14 ?k14) ?z1 ?z2 ?z3 ?z4 ?z5 ?z6 ?z7 ?z8 ?z9 ?z10 ?z11 ?z12 ?z13 ?z14 ?z15 ?z16 ?z17 ?aC (K26.meth_at ?a_1 ?i_1 ?l_1 ?c_1 ?k_1) (K26.meth_at ?a_2 ?i_2 ?l_2 ?c_2 ?k_2) (K26.meth_at ?a_3 ?i_3 ?l_3 ?c_3 ?k_3) (K26.meth_at ?a_4 ?i_4 ?l_4 ?c_4 ?k_4) (K26.meth_at ?a_5 ?i_5 ?l_5 ?c_5 ?k_5) (K26.meth_at ?a_6 ?i_6 ?l_6 ?c_6 ?k_6) (K26.meth_at ?a_7 ?i_7 ?l_7 ?c_7 ?k_7) ?pg ?hd ?po ?sa ?mk ?kc ?na0 ?na1 ?na2 ?na3 ?na4 ?aL ?aG ?aD ?aO ?aN ?aE ?lG ?lN ?uN ?iG (K26.init_at ?lI ?cI ?kI) ?cCL ?lM ?uM ?iM ?seG ?kpG ?spL ?rdL ?fdL ?x1 ?x2 ?x3 ?x4 ?x5 ?x6 ?x7 ?x8 ?y1 ?y2 ?y3 ?y4 ?y5D ?cCD ?y6D ?y7D ?y5O ?cCO ?y6O ?y7O ?y5N ?cCN ?y6N ?y7N ?y5E ?cCE ?y6E ?y7E ?y8 ?y9 ?y0 ?nap (K26.codeHd_mk ?lH2 ?eH2) ?nB4 ?kP
    (case a1 => k_is); (case l1 => k_is); (case c1 => k_is); (case k1 => k_is)
    (case a2 => k_is); (case l2 => k_is); (case c2 => k_is); (case k2 => k_is)
    (case a3 => k_is); (case l3 => k_is); (case c3 => k_is); (case k3 => k_is)
    (case a4 => k_is); (case l4 => k_is); (case c4 => k_is); (case k4 => k_is)
    (case a5 => k_is); (case l5 => k_is); (case c5 => k_is); (case k5 => k_is)
    (case a6 => k_is); (case l6 => k_is); (case c6 => k_is); (case k6 => k_is)
    (case a7 => k_is); (case l7 => k_is); (case c7 => k_is); (case k7 => k_is)
    (case a8 => k_is); (case l8 => k_is); (case c8 => k_is); (case k8 => k_is)
    (case a9 => k_is); (case l9 => k_is); (case c9 => k_is); (case k9 => k_is)
    (case a10 => k_is); (case l10 => k_is); (case c10 => k_is); (case k10 => k_is)
    (case a11 => k_is); (case l11 => k_is); (case c11 => k_is); (case k11 => k_is)
    (case a12 => k_is); (case l12 => k_is); (case c12 => k_is); (case k12 => k_is)
    (case a13 => k_is); (case l13 => k_is); (case c13 => k_is); (case k13 => k_is)
    (case a14 => k_is); (case l14 => k_is); (case c14 => k_is); (case k14 => k_is)
    (case z1 => k_is)
    (case z2 => k_is)
    (case z3 => k_is)
    (case z4 => k_is)
    (case z5 => k_is)
    (case z6 => k_is)
    (case z7 => k_is)
    (case z8 => k_is)
    (case z9 => k_is)
    (case z10 => k_is)
    (case z11 => k_is)
    (case z12 => k_is)
    (case z13 => k_is)
    (case z14 => k_is)
    (case z15 => k_is)
    (case z16 => k_is)
    (case z17 => k_is)
    (case aC => k_is)
    (case a_1 => k_is); (case i_1 => k_is); (case l_1 => k_is); (case c_1 => k_is); (case k_1 => k_is)
    (case a_2 => k_is); (case i_2 => k_is); (case l_2 => k_is); (case c_2 => k_is); (case k_2 => k_is)
    (case a_3 => k_is); (case i_3 => k_is); (case l_3 => k_is); (case c_3 => k_is); (case k_3 => k_is)
    (case a_4 => k_is); (case i_4 => k_is); (case l_4 => k_is); (case c_4 => k_is); (case k_4 => k_is)
    (case a_5 => k_is); (case i_5 => k_is); (case l_5 => k_is); (case c_5 => k_is); (case k_5 => k_is)
    (case a_6 => k_is); (case i_6 => k_is); (case l_6 => k_is); (case c_6 => k_is); (case k_6 => k_is)
    (case a_7 => k_is); (case i_7 => k_is); (case l_7 => k_is); (case c_7 => k_is); (case k_7 => k_is)
    (case pg => k_is); (case hd => k_is); (case po => k_is); (case sa => k_is); (case mk => k_is); (case kc => k_is)
    (case na0 => k_is)
    (case na1 => k_is)
    (case na2 => k_is)
    (case na3 => k_is)
    (case na4 => k_is)
    (case aL => k_is)
    (case aG => k_is)
    (case aD => k_is)
    (case aO => k_is)
    (case aN => k_is)
    (case aE => k_is)
    (case lG => k_is)
    (case lN => k_is)
    (case uN => simp [PySem.W.nsOkIn, List.lookup])
    (case iG => k_is)
    (case lI => k_is)
    (case cI => k_is)
    (case kI => k_is)
    (case cCL => k_is)
    (case lM => k_is)
    (case uM => simp [PySem.W.nsOkIn, List.lookup])
    (case iM => k_is)
    (case seG => k_is)
    (case kpG => k_is)
    (case spL => k_is)
    (case rdL => k_is)
    (case fdL => k_is)
    (case x1 => k_is)
    (case x2 => k_is)
    (case x3 => k_is)
    (case x4 => k_is)
    (case x5 => k_is)
    (case x6 => k_is)
    (case x7 => k_is)
    (case x8 => k_is)
    (case y1 => k_is)
    (case y2 => k_is)
    (case y3 => k_is)
    (case y4 => rfl)
    (case y5D => rfl)
    (case cCD => k_is)
    (case y6D => k_is)
    (case y7D => k_is)
    (case y5O => rfl)
    (case cCO => k_is)
    (case y6O => k_is)
    (case y7O => k_is)
    (case y5N => rfl)
    (case cCN => k_is)
    (case y6N => k_is)
    (case y7N => k_is)
    (case y5E => rfl)
    (case cCE => k_is)
    (case y6E => k_is)
    (case y7E => k_is)
    (case y8 => rfl)
    (case y9 => rfl)
    (case y0 => k_is)
    (case nap => k_is)
    (case lH2 => k_is); (case eH2 => rfl); (case nB4 => decide); (case kP => rfl)
